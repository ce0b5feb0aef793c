import Derived.Test.YtjjdkkdnlnbedaaGreatTreeB
import Derived.Test.YtjjdkkdnlnbedaaGreatRows
import Derived.WalkKit
import Derived.WalkSpells
import Derived.WalkLawsBesides
import Derived.RegionTactic
import Derived.BigRegion
import Derived.Test.YtjjdkkdnlnbedaaGreatQueM
import Derived.Test.YtjjdkkdnlnbedaaGreatQueD
import Derived.Test.YtjjdkkdnlnbedaaGreatRgStep
/- Going through all queues of a base: what each call of the closure keeps is kept. -/
namespace Go.Proofs.YtjjdkkdnlnbedaaGreat
open Go.RowKit
set_option linter.unusedVariables false

theorem idx_pair0 (c d : Value) (w : World) : (Instr.index 102 (.agg #[c, d]) (.int .i64 0)).run Tryz.prog w = .ok c w := by kernel_rfl
theorem idx_pair1 (c d : Value) (w : World) : (Instr.index 102 (.agg #[c, d]) (.int .i64 1)).run Tryz.prog w = .ok d w := by kernel_rfl
/-- A nil base: nothing is called. -/
theorem each_nil (f : Value) (w : World) : Calls Tryz.prog 62 #[.pointer none, f] w fun e w' => e = .returned (.tuple #[]) ∧ w' = w := by
  go_enter Tryz.func62, Tryz.ntmps62
  go_wp2
  refine bodyPost_ret (results_none rfl _ _ _) rfl ?_
  exact ⟨rfl, rfl⟩
set_option maxRecDepth 20000 in
set_option maxHeartbeats 1000000 in
theorem each_any (b : Nat) (c0 c1 c2 c3 c4 c5 : Value) (F : Nat) (caps : Array Value) (J : Nat → World → Prop) (w : World)
    (eg : ∀ (args : Array Value) (w : World), (callFunc F args).run Tryz.prog w = .ok (.enter F args) w)
    (hb : ∀ i w, J i w → Blk w b 105 #[c0, c1, c2, c3, c4, c5])
    (hs : ∀ i w k l c, i < 6 → J i w → k = ((i / 2 : Nat) : Int) → l = decide (i % 2 = 1) → #[c0, c1, c2, c3, c4, c5][i]? = some c → Calls Tryz.prog F (#[.int .i64 k, .bool l, c] ++ caps) w fun e w' => e = .returned (.tuple #[]) ∧ J (i + 1) w')
    (hJ : J 0 w) : Calls Tryz.prog 62 #[.pointer (some ⟨b, 0, none⟩), .func (.func F) #[] caps] w fun e w' => e = .returned (.tuple #[]) ∧ J 6 w' := by
  have HB := hide hb
  have HS := hide hs
  have H0 := hide hJ
  clear hb hs hJ
  go_enter Tryz.func62, Tryz.ntmps62
  go_wp2
  go_loopw [9] (fun d w' => ∃ k : Int, d = .int .i64 k ∧ (0 ≤ k ∧ k ≤ 3) ∧ Hid (J (2 * k.toNat) w')) (fun d _ => 3 - (intOf d).toNat)
  case atStart => exact ⟨0, rfl, by omega, H0⟩
  case round =>
    obtain ⟨k, rfl, hk, HK⟩ := hrel
    by_cases hlt : k < 3
    · have hbk := (unhide HB) _ _ (unhide HK)
      have q0 := hbk.cell 0
      have q1 := hbk.cell 1
      have q2 := hbk.cell 2
      have q3 := hbk.cell 3
      have q4 := hbk.cell 4
      have q5 := hbk.cell 5
      simp only [List.getElem?_toArray, List.getElem?_cons_zero, List.getElem?_cons_succ] at q0 q1 q2 q3 q4 q5
      clear hbk
      rcases (show k = 0 ∨ k = 1 ∨ k = 2 by omega) with rfl | rfl | rfl
      · go_wp2
        go_loopw [18] (fun d w' => ∃ j : Int, d = .int .i64 j ∧ (0 ≤ j ∧ j ≤ 2) ∧ Hid (J (0 + j.toNat) w')) (fun d _ => 2 - (intOf d).toNat)
        case atStart => exact ⟨0, rfl, by omega, HK⟩
        case round =>
          obtain ⟨j, rfl, hj, HJ⟩ := hrel
          by_cases hjt : j < 2
          · rcases (show j = 0 ∨ j = 1 by omega) with rfl | rfl
            · have ix := idx_pair0 c0 c1
              have CS := hide ((unhide HS) 0 _ _ _ _ (by omega) (unhide HJ) rfl rfl rfl)
              go_wp2_with (show Calls Tryz.prog F _ _ _; refine (unhide CS).mono ?_; rintro e w1 ⟨rfl, j1⟩)
              go_roundw
              case rel => exact ⟨1, by first | rfl | go_num, by omega, hide j1⟩
              case measure => simp [intOf]
            · have ix := idx_pair1 c0 c1
              have CS := hide ((unhide HS) (0 + 1) _ _ _ _ (by omega) (unhide HJ) rfl rfl rfl)
              go_wp2_with (show Calls Tryz.prog F _ _ _; refine (unhide CS).mono ?_; rintro e w1 ⟨rfl, j1⟩)
              go_roundw
              case rel => exact ⟨2, by first | rfl | go_num, by omega, hide j1⟩
              case measure => simp [intOf]
          · obtain rfl : j = 2 := by omega
            go_wp2
            go_roundw
            case rel => exact ⟨1, by first | rfl | go_num, by omega, HJ⟩
            case measure => simp [intOf]
      · go_wp2
        go_loopw [18] (fun d w' => ∃ j : Int, d = .int .i64 j ∧ (0 ≤ j ∧ j ≤ 2) ∧ Hid (J (2 + j.toNat) w')) (fun d _ => 2 - (intOf d).toNat)
        case atStart => exact ⟨0, rfl, by omega, HK⟩
        case round =>
          obtain ⟨j, rfl, hj, HJ⟩ := hrel
          by_cases hjt : j < 2
          · rcases (show j = 0 ∨ j = 1 by omega) with rfl | rfl
            · have ix := idx_pair0 c2 c3
              have CS := hide ((unhide HS) 2 _ _ _ _ (by omega) (unhide HJ) rfl rfl rfl)
              go_wp2_with (show Calls Tryz.prog F _ _ _; refine (unhide CS).mono ?_; rintro e w1 ⟨rfl, j1⟩)
              go_roundw
              case rel => exact ⟨1, by first | rfl | go_num, by omega, hide j1⟩
              case measure => simp [intOf]
            · have ix := idx_pair1 c2 c3
              have CS := hide ((unhide HS) (2 + 1) _ _ _ _ (by omega) (unhide HJ) rfl rfl rfl)
              go_wp2_with (show Calls Tryz.prog F _ _ _; refine (unhide CS).mono ?_; rintro e w1 ⟨rfl, j1⟩)
              go_roundw
              case rel => exact ⟨2, by first | rfl | go_num, by omega, hide j1⟩
              case measure => simp [intOf]
          · obtain rfl : j = 2 := by omega
            go_wp2
            go_roundw
            case rel => exact ⟨2, by first | rfl | go_num, by omega, HJ⟩
            case measure => simp [intOf]
      · go_wp2
        go_loopw [18] (fun d w' => ∃ j : Int, d = .int .i64 j ∧ (0 ≤ j ∧ j ≤ 2) ∧ Hid (J (4 + j.toNat) w')) (fun d _ => 2 - (intOf d).toNat)
        case atStart => exact ⟨0, rfl, by omega, HK⟩
        case round =>
          obtain ⟨j, rfl, hj, HJ⟩ := hrel
          by_cases hjt : j < 2
          · rcases (show j = 0 ∨ j = 1 by omega) with rfl | rfl
            · have ix := idx_pair0 c4 c5
              have CS := hide ((unhide HS) 4 _ _ _ _ (by omega) (unhide HJ) rfl rfl rfl)
              go_wp2_with (show Calls Tryz.prog F _ _ _; refine (unhide CS).mono ?_; rintro e w1 ⟨rfl, j1⟩)
              go_roundw
              case rel => exact ⟨1, by first | rfl | go_num, by omega, hide j1⟩
              case measure => simp [intOf]
            · have ix := idx_pair1 c4 c5
              have CS := hide ((unhide HS) (4 + 1) _ _ _ _ (by omega) (unhide HJ) rfl rfl rfl)
              go_wp2_with (show Calls Tryz.prog F _ _ _; refine (unhide CS).mono ?_; rintro e w1 ⟨rfl, j1⟩)
              go_roundw
              case rel => exact ⟨2, by first | rfl | go_num, by omega, hide j1⟩
              case measure => simp [intOf]
          · obtain rfl : j = 2 := by omega
            go_wp2
            go_roundw
            case rel => exact ⟨3, by first | rfl | go_num, by omega, HJ⟩
            case measure => simp [intOf]
    · obtain rfl : k = 3 := by omega
      go_wp2
      go_end0
      exact ⟨rfl, unhide HK⟩
end Go.Proofs.YtjjdkkdnlnbedaaGreat


/- Six rows of timers: what a base is, in plain words. -/
namespace Go.Proofs.YtjjdkkdnlnbedaaGreat.Qu
open Kt

/-- Rows by their numbers: clock by clock, those that aren't Lazy first. -/
abbrev Rows6 := Nat → List Tmr
def ixT (t : Tmr) : Nat := 2 * t.clock.toNat + (if t.lazy then 1 else 0)
/-- The rows up to one. -/
def upT (R : Rows6) : Nat → List Tmr
  | 0 => []
  | i + 1 => upT R i ++ R i
def allT (R : Rows6) : List Tmr := upT R 6
/-- One row is another one. -/
def setT (R : Rows6) (i : Nat) (l : List Tmr) : Rows6 := fun j => if j = i then l else R j
theorem setT_same (R : Rows6) (i : Nat) (l : List Tmr) : setT R i l i = l := if_pos rfl
theorem setT_ne (R : Rows6) {i j : Nat} (l : List Tmr) (h : j ≠ i) : setT R i l j = R j := if_neg h
theorem upT_congr {R S : Rows6} : ∀ {i : Nat}, (∀ j, j < i → R j = S j) → upT R i = upT S i
  | 0, _ => rfl
  | i + 1, h => by
    show upT R i ++ R i = upT S i ++ S i
    rw [upT_congr (fun j hj => h j (by omega)), h i (by omega)]
theorem mem_upT {R : Rows6} {t : Tmr} : ∀ {i : Nat}, t ∈ upT R i ↔ ∃ j, j < i ∧ t ∈ R j
  | 0 => by simp [upT]
  | i + 1 => by
    show t ∈ upT R i ++ R i ↔ _
    rw [List.mem_append, mem_upT]
    constructor
    · rintro (⟨j, hj, h⟩ | h)
      · exact ⟨j, by omega, h⟩
      · exact ⟨i, by omega, h⟩
    · rintro ⟨j, hj, h⟩
      by_cases e : j = i
      · subst e; exact .inr h
      · exact .inl ⟨j, by omega, h⟩
theorem mem_allT {R : Rows6} {t : Tmr} : t ∈ allT R ↔ ∃ j, j < 6 ∧ t ∈ R j := mem_upT
theorem mem_ids_upT {R : Rows6} {id : Int} {i : Nat} : id ∈ idsT (upT R i) ↔ ∃ j, j < i ∧ id ∈ idsT (R j) := by
  unfold idsT
  simp only [List.mem_map, mem_upT]
  constructor
  · rintro ⟨t, ⟨j, hj, ht⟩, e⟩; exact ⟨j, hj, t, ht, e⟩
  · rintro ⟨j, hj, t, ht, e⟩; exact ⟨t, ⟨j, hj, ht⟩, e⟩
/-- What lies ahead of a row, and behind it. -/
def downT (R : Rows6) (i : Nat) : List Tmr := (List.range' (i + 1) (5 - i)).flatMap R
theorem upT_flat (R : Rows6) : ∀ i, upT R i = (List.range' 0 i).flatMap R
  | 0 => rfl
  | i + 1 => by
    show upT R i ++ R i = _
    rw [upT_flat R i, List.range'_1_concat, List.flatMap_append]
    simp
theorem allT_split (R : Rows6) {i : Nat} (hi : i < 6) : allT R = upT R i ++ (R i ++ downT R i) := by
  unfold allT downT
  rw [upT_flat, upT_flat]
  have : List.range' 0 6 = List.range' 0 i ++ (i :: List.range' (i + 1) (5 - i)) := by
    rcases (show i = 0 ∨ i = 1 ∨ i = 2 ∨ i = 3 ∨ i = 4 ∨ i = 5 by omega) with rfl | rfl | rfl | rfl | rfl | rfl <;> rfl
  rw [this, List.flatMap_append, List.flatMap_cons]
theorem downT_congr {R S : Rows6} {i : Nat} (h : ∀ j, i < j → j < 6 → R j = S j) : downT R i = downT S i := by
  unfold downT
  have : ∀ l : List Nat, (∀ j ∈ l, R j = S j) → l.flatMap R = l.flatMap S := by
    intro l hl
    induction l with
    | nil => rfl
    | cons x l ih => rw [List.flatMap_cons, List.flatMap_cons, hl x (by simp), ih (fun j hj => hl j (by simp [hj]))]
  apply this
  intro j hj
  rw [List.mem_range'_1] at hj
  exact h j (by omega) (by omega)
theorem allT_set (R : Rows6) {i : Nat} (hi : i < 6) (l : List Tmr) : allT (setT R i l) = upT R i ++ (l ++ downT R i) := by
  rw [allT_split _ hi, setT_same, upT_congr (fun j hj => setT_ne R l (by omega)), downT_congr (fun j h1 _ => setT_ne R l (by omega))]
theorem mem_downT {R : Rows6} {i : Nat} {t : Tmr} (h : t ∈ downT R i) : ∃ j, i < j ∧ j < 6 ∧ t ∈ R j := by
  unfold downT at h
  obtain ⟨j, hj, ht⟩ := List.mem_flatMap.1 h
  rw [List.mem_range'_1] at hj
  exact ⟨j, by omega, by omega, ht⟩
/-- The rows are as they should be: each timer in its row, each row in order, no ID twice. -/
structure Rok (R : Rows6) : Prop where
  ix : ∀ i t, i < 6 → t ∈ R i → ixT t = i ∧ 0 ≤ t.clock ∧ t.clock ≤ 2
  srt : ∀ i, i < 6 → SrtT (R i)
  nd : (idsT (allT R)).Nodup
theorem Rok.empty : Rok (fun _ => []) := ⟨(fun i t _ h => by cases h), (fun i _ => by simp [SrtT]), (by simp [allT, upT, idsT])⟩
theorem Rok.one {R : Rows6} (h : Rok R) {i j : Nat} {id : Int} (hi : i < 6) (hj : j < 6) (h1 : id ∈ idsT (R i)) (h2 : id ∈ idsT (R j)) : i = j := by
  have key : ∀ a b, a < b → b < 6 → id ∈ idsT (R a) → id ∈ idsT (R b) → False := by
    intro a b hab hb ha hb'
    have := h.nd
    rw [allT_split R hb] at this
    unfold idsT at this
    rw [List.map_append, List.map_append] at this
    have h3 := (List.nodup_append.1 this).2.2 id (mem_ids_upT.2 ⟨a, hab, ha⟩) id (by simp only [List.mem_append]; exact .inl hb')
    exact h3 rfl
  by_cases e : i = j
  · exact e
  · rcases Nat.lt_or_gt_of_ne e with q | q
    · exact (key i j q hj h1 h2).elim
    · exact (key j i q hi h2 h1).elim
theorem idsT_app (a b : List Tmr) : idsT (a ++ b) = idsT a ++ idsT b := by unfold idsT; rw [List.map_append]
/-- A timer comes into its row. -/
def putT (R : Rows6) (t : Tmr) : Rows6 := setT R (ixT t) (insT t (R (ixT t)))
theorem insT_perm (t : Tmr) : ∀ l : List Tmr, (insT t l).Perm (t :: l)
  | [] => List.Perm.refl _
  | y :: r => by
    show (if _ then _ else _ : List Tmr).Perm _
    split
    · exact ((insT_perm t r).cons y).trans (List.Perm.swap t y r)
    · exact List.Perm.refl _
theorem ixT_lt {t : Tmr} (h0 : 0 ≤ t.clock) (h2 : t.clock ≤ 2) : ixT t < 6 := by
  unfold ixT
  split <;> omega
theorem allT_put_perm (R : Rows6) {t : Tmr} (h : ixT t < 6) : (allT (putT R t)).Perm (t :: allT R) := by
  unfold putT
  rw [allT_set R h, allT_split R h]
  refine (((insT_perm t _).append_right _).append_left _).trans ?_
  exact List.perm_middle
theorem Rok.put {R : Rows6} (h : Rok R) {t : Tmr} (h0 : 0 ≤ t.clock) (h2 : t.clock ≤ 2) (hn : t.id ∉ idsT (allT R)) : Rok (putT R t) := by
  refine ⟨fun i y hi hy => ?_, fun i hi => ?_, ?_⟩
  · unfold putT setT at hy
    split at hy
    · rename_i e
      rcases mem_insT.1 hy with rfl | hy
      · exact ⟨e.symm, h0, h2⟩
      · rw [← e] at hy; exact h.ix i y hi hy
    · exact h.ix i y hi hy
  · unfold putT setT
    split
    · exact insT_srt (h.srt _ (ixT_lt h0 h2))
    · exact h.srt i hi
  · have := (allT_put_perm R (ixT_lt h0 h2)).map (·.id)
    exact this.symm.nodup (List.nodup_cons.2 ⟨hn, h.nd⟩)
theorem Rok.sub {R S : Rows6} (h : Rok R) (hs : ∀ i, i < 6 → (S i).Sublist (R i)) : Rok S := by
  refine ⟨fun i y hi hy => h.ix i y hi ((hs i hi).subset hy), fun i hi => (h.srt i hi).sublist (hs i hi), ?_⟩
  have key : ∀ i, i ≤ 6 → (upT S i).Sublist (upT R i) := by
    intro i
    induction i with
    | zero => intro _; exact List.Sublist.refl _
    | succ i ih => intro hi; exact (ih (by omega)).append (hs i (by omega))
  exact h.nd.sublist ((key 6 (Nat.le_refl _)).map _)
/-- A timer goes. -/
theorem Rok.drop {R : Rows6} (h : Rok R) {i : Nat} {A B : List Tmr} {t : Tmr} (hi : i < 6) (e : R i = A ++ t :: B) : Rok (setT R i (A ++ B)) := by
  refine h.sub fun j hj => ?_
  unfold setT
  split
  · rename_i q
    subst q
    rw [e]
    exact (List.Sublist.refl A).append (List.sublist_cons_self t B)
  · exact List.Sublist.refl _
/-- Which row has an ID. -/
theorem Rok.find {R : Rows6} (h : Rok R) {id : Int} (hm : id ∈ idsT (allT R)) : ∃ i A B t, i < 6 ∧ R i = A ++ t :: B ∧ t.id = id ∧ (∀ j, j < 6 → j ≠ i → id ∉ idsT (R j)) ∧ id ∉ idsT (A ++ B) := by
  obtain ⟨i, hi, hx⟩ := mem_ids_upT.1 hm
  obtain ⟨t, ht, rfl⟩ := List.mem_map.1 hx
  obtain ⟨A, B, e⟩ := List.append_of_mem ht
  refine ⟨i, A, B, t, hi, e, rfl, fun j hj hne hq => hne (h.one hj hi hq (List.mem_map.2 ⟨t, ht, rfl⟩)), fun hq => ?_⟩
  have h1 := h.nd
  rw [allT_split R hi, e] at h1
  unfold idsT at h1 hq
  simp only [List.map_append, List.map_cons] at h1 hq
  have h2 := (List.nodup_append.1 h1).2.1
  have h3 := (List.nodup_append.1 h2).1
  have h4 := List.nodup_append.1 h3
  rcases List.mem_append.1 hq with q | q
  · exact h4.2.2 _ q _ (by simp) rfl
  · exact (List.nodup_cons.1 h4.2.1).1 q
end Go.Proofs.YtjjdkkdnlnbedaaGreat.Qu


/- A queue that may not be made yet; a base. -/
namespace Go.Proofs.YtjjdkkdnlnbedaaGreat
open Go.RowKit Kt Qu
set_option linter.unusedVariables false

theorem blkAt {w : World} {g : Nat} {t : TypeId} {cs : Array Value} (h : Blk w g t cs) (j : Nat) (v : Value) (hj : cs[j]? = some v) : w.cell? ⟨g, j, none⟩ = some v := by rw [h.cell]; exact hj
def Qo (w : World) (o : Option Qa) (n : Nat) (R : List Tmr) : Prop := match o with
  | none => R = []
  | some a => Qs w a n R
def pv (o : Option Qa) : Value := match o with
  | none => .pointer none
  | some a => .pointer (some ⟨a.q, 0, none⟩)
def fo (o : Option Qa) (k : Nat) : Prop := match o with
  | none => False
  | some a => a.foot k
section
variable {w w' : World} {o : Option Qa} {n : Nat} {R : List Tmr}
theorem Qo.up (h : Qo w o n R) (hn : n < 1000000) : Qo w o (n + 1) R := by
  cases o with
  | none => exact h
  | some a => exact Qs.up h hn
theorem Qo.ft {F : Nat → Prop} (h : Qo w o n R) (ht : Ft F w w') (hn : ∀ k, fo o k → ¬ F k) : Qo w' o n R := by
  cases o with
  | none => exact h
  | some a => exact Qs.ft h ht hn
theorem Qo.below (h : Qo w o n R) (hb : Below w.heap.size w w') : Qo w' o n R := h.ft (Ft.of_below (fun _ => False) hb) (fun _ _ => id)
theorem Qo.lts (h : Qo w o n R) : ∀ k, fo o k → k < w.heap.size := by
  cases o with
  | none => intro k hk; exact hk.elim
  | some a => exact Qs.lts h
theorem Qo.len (h : Qo w o n R) : R.length ≤ 64 := by
  cases o with
  | none => rw [show R = [] from h]; decide
  | some a => exact Qs.len h
theorem Qo.ok (h : Qo w o n R) : ∀ t ∈ R, okT t := by
  cases o with
  | none => rw [show R = [] from h]; intro t ht; cases ht
  | some a => exact Qs.ok h
theorem olen (h : Qo w o n R) : Calls Tryz.prog 88 #[pv o] w fun e w' => e = .returned (.int .i64 R.length) ∧ w' = w := by
  cases o with
  | none => rw [show R = [] from h]; exact qlen_nil w
  | some a => exact slen_any h
theorem ohas (h : Qo w o n R) (id : Int) (hid : isI id) : Calls Tryz.prog 107 #[pv o, .int .i64 id] w fun e w' => e = .returned (.bool (decide (id ∈ idsT R))) ∧ Below w.heap.size w w' := by
  cases o with
  | none =>
    rw [show R = [] from h]
    refine (qhas_nil w id).mono ?_
    rintro e w' ⟨rfl, rfl⟩
    exact ⟨by rw [decide_eq_false (by unfold idsT; simp)], Below.refl _ _⟩
  | some a => exact shas h id hid
theorem ofirst (h : Qo w o n R) : Calls Tryz.prog 102 #[pv o] w fun e w' => e = .returned (fstV R) ∧ Below w.heap.size w w' := by
  cases o with
  | none => rw [show R = [] from h]; exact qfirst_nil w
  | some a => exact sfirst h
theorem oall (h : Qo w o n R) : Calls Tryz.prog 64 #[pv o] w fun e w' => ∃ v, e = .returned v ∧ Rg rtm w' w.heap.size v R ∧ Below w.heap.size w w' := by
  cases o with
  | none => rw [show R = [] from h]; exact qall_nil w
  | some a => exact sall h
theorem odrop_none (h : Qo w o n R) (id : Int) (hid : isI id) (hm : id ∉ idsT R) : Calls Tryz.prog 97 #[pv o, .int .i64 id] w fun e w' => e = .returned (.tuple #[tv t0, .bool false]) ∧ Below w.heap.size w w' := by
  cases o with
  | none => exact qdrop_nil w id
  | some a => exact sdrop_none h id hid hm
theorem odrop_ok {A B : List Tmr} {t : Tmr} (h : Qo w o n (A ++ t :: B)) : Calls Tryz.prog 97 #[pv o, .int .i64 t.id] w fun e w' => e = .returned (.tuple #[tv t, .bool true]) ∧ Qo w' o n (A ++ B) ∧ Ft (fo o) w w' := by
  cases o with
  | none => exact absurd (show A ++ t :: B = [] from h) (by simp)
  | some a => exact sdrop_ok h
theorem odue_no (h : Qo w o n R) (now : Int) (hd : ∀ y S, R = y :: S → ¬ dueT now y) : Calls Tryz.prog 123 #[pv o, .int .i64 now] w fun e w' => e = .returned (.tuple #[tv t0, .bool false]) ∧ Below w.heap.size w w' := by
  cases o with
  | none => exact qdue_nil now w
  | some a => exact sdue_no h now hd
theorem odue_ok {t : Tmr} (h : Qo w o n (t :: R)) (now : Int) (hd : dueT now t) : Calls Tryz.prog 123 #[pv o, .int .i64 now] w fun e w' => e = .returned (.tuple #[tv t, .bool true]) ∧ Qo w' o n R ∧ Ft (fo o) w w' := by
  cases o with
  | none => exact absurd (show t :: R = [] from h) (by simp)
  | some a => exact sdue_ok h now hd
end

/-- What a base touches. -/
def bfoot (b : Nat) (P : Nat → Option Qa) (k : Nat) : Prop := k = b ∨ ∃ i, i < 6 ∧ fo (P i) k
def bcs (P : Nat → Option Qa) : Array Value := #[pv (P 0), pv (P 1), pv (P 2), pv (P 3), pv (P 4), pv (P 5)]
theorem bcs_at (P : Nat → Option Qa) {i : Nat} {c : Value} (hi : i < 6) (h : (bcs P)[i]? = some c) : c = pv (P i) := by
  rcases (show i = 0 ∨ i = 1 ∨ i = 2 ∨ i = 3 ∨ i = 4 ∨ i = 5 by omega) with rfl | rfl | rfl | rfl | rfl | rfl <;> (cases h; rfl)
/-- A base: where its queues lie, its six rows; n stores have been done. -/
structure Bs (w : World) (b n : Nat) (P : Nat → Option Qa) (R : Rows6) : Prop where
  blk : Blk w b 105 (bcs P)
  q : ∀ i, i < 6 → Qo w (P i) n (R i)
  ap : ∀ i j k, i < 6 → j < 6 → i ≠ j → fo (P i) k → ¬ fo (P j) k
  own : ∀ i, i < 6 → ¬ fo (P i) b
  ok : Rok R
  nb : n ≤ 1000000
section
variable {w w' : World} {b n : Nat} {P : Nat → Option Qa} {R : Rows6}
theorem Bs.ft {F : Nat → Prop} (h : Bs w b n P R) (ht : Ft F w w') (hn : ∀ k, bfoot b P k → ¬ F k) : Bs w' b n P R :=
  ⟨h.blk.ft ht (hn b (.inl rfl)), fun i hi => (h.q i hi).ft ht fun k hk => hn k (.inr ⟨i, hi, hk⟩), h.ap, h.own, h.ok, h.nb⟩
theorem Bs.below (h : Bs w b n P R) (hb : Below w.heap.size w w') : Bs w' b n P R := h.ft (Ft.of_below (fun _ => False) hb) (fun _ _ => id)
theorem Bs.lts (h : Bs w b n P R) : ∀ k, bfoot b P k → k < w.heap.size := by
  rintro k (rfl | ⟨i, hi, hk⟩)
  · exact h.blk.lt
  · exact (h.q i hi).lts k hk
theorem Bs.okt (h : Bs w b n P R) : ∀ t ∈ allT R, okT t := by
  intro t ht
  obtain ⟨i, hi, hm⟩ := mem_allT.1 ht
  exact (h.q i hi).ok t hm
theorem Bs.len (h : Bs w b n P R) : (allT R).length ≤ 384 := by
  have key : ∀ i, i ≤ 6 → (upT R i).length ≤ 64 * i := by
    intro i
    induction i with
    | zero => intro _; exact Nat.le_refl _
    | succ i ih =>
      intro hi
      have h1 := ih (by omega)
      have h2 := (h.q i (by omega)).len
      show (upT R i ++ R i).length ≤ _
      rw [List.length_append]
      omega
  exact key 6 (Nat.le_refl _)
/-- One queue has changed. -/
theorem Bs.step (h : Bs w b n P R) {i : Nat} (hi : i < 6) {l : List Tmr} (h2 : Qo w' (P i) n l) (f : Ft (fo (P i)) w w') (hr : Rok (setT R i l)) : Bs w' b n P (setT R i l) ∧ Ft (bfoot b P) w w' := by
  refine ⟨⟨h.blk.ft f (h.own i hi), fun j hj => ?_, h.ap, h.own, hr, h.nb⟩, f.mono fun k hk => .inr ⟨i, hi, hk⟩⟩
  by_cases e : j = i
  · subst e; rw [setT_same]; exact h2
  · rw [setT_ne _ _ e]; exact (h.q j hj).ft f fun k hk => h.ap j i k hj hi e hk
theorem bnew (w : World) : Calls Tryz.prog 25 #[] w fun e w' => ∃ b, e = .returned (.pointer (some ⟨b, 0, none⟩)) ∧ Bs w' b 0 (fun _ => none) (fun _ => []) ∧ Below w.heap.size w w' ∧ b = w.heap.size := by
  obtain ⟨B, hB⟩ : ∃ B, w.heap.size = B := ⟨_, rfl⟩
  have k0 : Blk (w.alloc (.cells #[.pointer none, .pointer none, .pointer none, .pointer none, .pointer none, .pointer none] 105)) B 105 #[.pointer none, .pointer none, .pointer none, .pointer none, .pointer none, .pointer none] := Blk.new_at _ _ _ hB.symm
  have H := hide k0
  have HB := hide (one_below w (.cells #[.pointer none, .pointer none, .pointer none, .pointer none, .pointer none, .pointer none] 105))
  clear k0
  rw [hB] at HB ⊢
  go_enter Tryz.func25, Tryz.ntmps25
  go_wp2
  go_ret
  exact ⟨B, rfl, ⟨unhide H, fun i _ => rfl, (fun i j k _ _ _ h => h.elim), (fun i _ h => h.elim), Rok.empty, by omega⟩, unhide HB, rfl⟩
end
end Go.Proofs.YtjjdkkdnlnbedaaGreat


/- A base's Has and Len. -/
namespace Go.Proofs.YtjjdkkdnlnbedaaGreat
open Go.RowKit Kt Qu
set_option linter.unusedVariables false

section
variable {w w' : World} {b n : Nat} {P : Nat → Option Qa} {R : Rows6}
/-- Whether an ID is in the rows ahead of one. -/
def hasF (R : Rows6) (id : Int) (i : Nat) : Bool := decide (id ∈ idsT (upT R i))
theorem hasF_succ (R : Rows6) (id : Int) (i : Nat) : hasF R id (i + 1) = (hasF R id i || decide (id ∈ idsT (R i))) := by
  unfold hasF
  show decide (id ∈ idsT (upT R i ++ R i)) = _
  rw [idsT_app, ← Bool.decide_or]
  exact decide_eq_decide.2 List.mem_append
set_option maxRecDepth 20000 in
set_option maxHeartbeats 1000000 in
theorem hasclo (o : Option Qa) (m : Nat) (l : List Tmr) (w0 w : World) (C B0 B1 : Nat) (hq : Qo w o m l) (id : Int) (hid : isI id) (d : Bool) (x y : Value) (k0 : Blk w B0 3 #[.int .i64 id]) (k1 : Blk w B1 4 #[.bool d]) (hlow : Below C w0 w) (hC : C ≤ B1) (h01 : B0 ≠ B1) :
    Calls Tryz.prog 106 #[x, y, pv o, .pointer (some ⟨B1, 0, none⟩), .pointer (some ⟨B0, 0, none⟩)] w fun e w' => e = .returned (.tuple #[]) ∧ Below C w0 w' ∧ Blk w' B0 3 #[.int .i64 id] ∧ Blk w' B1 4 #[.bool (d || decide (id ∈ idsT l))] := by
  have CH := hide (ohas hq id hid)
  have c0 := blkAt k0 0 (.int .i64 id) rfl
  have c1 := blkAt k1 0 (.bool d) rfl
  have f1 := k1.free 0
  have g2 := hkHeld k1 0 (.bool d) rfl
  have H := hide (And.intro k0 (And.intro k1 hlow))
  obtain ⟨V, hV⟩ : ∃ V, pv o = V := ⟨_, rfl⟩
  rw [hV] at CH ⊢
  obtain ⟨r, hr⟩ : ∃ r, decide (id ∈ idsT l) = r := ⟨_, rfl⟩
  rw [hr] at CH ⊢
  have hlt : C ≤ w.heap.size := by have := k1.lt; omega
  clear hq hV hr k0 k1 hlow hid
  have g1 := hkFree (unhide H).2.1 0
  cases d
  · go_enter Tryz.func106, Tryz.ntmps106
    go_wp2_with (go_at_call 107; refine (unhide CH).mono ?_; rintro e w1 ⟨rfl, hb1⟩; have f2 := g1 _ hb1; have f3 := g2 _ hb1)
    go_end0
    obtain ⟨k0, k1, hlow⟩ := unhide H
    have k1' := k1.below hb1 k1.lt
    exact ⟨rfl, (hlow.trans (hb1.mono hlt)).setCell hC _, (k0.below hb1 k0.lt).other (fun e => h01 e.symm) 0 _, by simpa using k1'.put 0 _⟩
  · go_enter Tryz.func106, Tryz.ntmps106
    go_wp2
    go_end0
    obtain ⟨k0, k1, hlow⟩ := unhide H
    exact ⟨rfl, hlow.setCell hC _, k0.other (fun e => h01 e.symm) 0 _, by simpa using k1.put 0 _⟩
set_option maxRecDepth 20000 in
set_option maxHeartbeats 1000000 in
theorem bhas (h : Bs w b n P R) (id : Int) (hid : isI id) : Calls Tryz.prog 85 #[.pointer (some ⟨b, 0, none⟩), .int .i64 id] w fun e w' => e = .returned (.bool (decide (id ∈ idsT (allT R)))) ∧ Below w.heap.size w w' := by
  obtain ⟨C, hC⟩ : ∃ C, w.heap.size = C := ⟨_, rfl⟩
  obtain ⟨W1, hW1⟩ : ∃ W1, W1 = w.alloc (.cells #[.int .i64 id] 3) := ⟨_, rfl⟩
  obtain ⟨W2, hW2⟩ : ∃ W2, W2 = W1.alloc (.cells #[.bool false] 4) := ⟨_, rfl⟩
  have b1 : Below C w W1 := by rw [hW1, ← hC]; exact one_below _ _
  have s1 : W1.heap.size = C + 1 := by rw [hW1, ← hC]; simp
  have b2 : Below W1.heap.size W1 W2 := by rw [hW2]; exact one_below _ _
  have k1 : Blk W1 C 3 #[.int .i64 id] := by rw [hW1]; exact Blk.new_at _ _ _ hC.symm
  have k2 : Blk W2 (C + 1) 4 #[.bool false] := by rw [hW2]; exact Blk.new_at _ _ _ s1.symm
  have CE := hide (each_any b (pv (P 0)) (pv (P 1)) (pv (P 2)) (pv (P 3)) (pv (P 4)) (pv (P 5)) 106 #[.pointer (some ⟨C + 1, 0, none⟩), .pointer (some ⟨C, 0, none⟩)]
    (fun i w' => Below C w w' ∧ Blk w' C 3 #[.int .i64 id] ∧ Blk w' (C + 1) 4 #[.bool (hasF R id i)]) W2 (fun _ _ => rfl)
    (fun i w' hJ => (h.below (hC ▸ hJ.1)).blk)
    (fun i w' k l c hi hJ hk hl hc => by
      rw [bcs_at P hi hc, hasF_succ]
      exact hasclo _ _ _ w w' C C (C + 1) ((h.below (hC ▸ hJ.1)).q i hi) id hid _ _ _ hJ.2.1 hJ.2.2 hJ.1 (by omega) (by omega))
    ⟨b1.trans (b2.mono (by omega)), k1.below b2 k1.lt, k2⟩)
  have HR : Hid (hasF R id 6 = decide (id ∈ idsT (allT R))) := hide rfl
  rw [← unhide HR]
  generalize hasF R id 6 = r at *
  have HW := hide hW2
  rw [hW1] at HW
  clear hW1 hW2 b1 b2 k1 k2 h s1
  rw [hC]
  go_enter Tryz.func85, Tryz.ntmps85
  go_wp2_with (go_at_call 62; refine Hid.out ?_)
  refine hide ?_
  rw [← unhide HW]
  refine (unhide CE).mono ?_
  rintro e w3 ⟨rfl, hl, -, k1⟩
  have c1 := blkAt k1 0 (.bool r) rfl
  have HL := hide hl
  clear hl k1 CE HW
  go_wp2
  go_ret
  exact ⟨rfl, unhide HL⟩
theorem has_nil (w : World) (id : Int) : Calls Tryz.prog 85 #[.pointer none, .int .i64 id] w fun e w' => e = .returned (.bool false) ∧ Below w.heap.size w w' := by
  obtain ⟨C, hC⟩ : ∃ C, w.heap.size = C := ⟨_, rfl⟩
  obtain ⟨W1, hW1⟩ : ∃ W1, W1 = w.alloc (.cells #[.int .i64 id] 3) := ⟨_, rfl⟩
  obtain ⟨W2, hW2⟩ : ∃ W2, W2 = W1.alloc (.cells #[.bool false] 4) := ⟨_, rfl⟩
  have b1 : Below C w W1 := by rw [hW1, ← hC]; exact one_below _ _
  have s1 : W1.heap.size = C + 1 := by rw [hW1, ← hC]; simp
  have b2 : Below W1.heap.size W1 W2 := by rw [hW2]; exact one_below _ _
  have k2 : Blk W2 (C + 1) 4 #[.bool false] := by rw [hW2]; exact Blk.new_at _ _ _ s1.symm
  have HL := hide (b1.trans (b2.mono (by omega)))
  have c1 := blkAt k2 0 (.bool false) rfl
  rw [hW2, hW1] at c1 HL
  clear hW1 hW2 b1 b2 k2 s1
  rw [hC]
  go_enter Tryz.func85, Tryz.ntmps85
  go_wp2_with (go_at_call 62; refine (each_nil _ _).mono ?_; rintro e w3 ⟨rfl, rfl⟩)
  go_ret
  exact ⟨rfl, unhide HL⟩
def lenF (R : Rows6) (i : Nat) : Int := ((upT R i).length : Int)
theorem lenF_succ (R : Rows6) (i : Nat) : lenF R (i + 1) = lenF R i + ((R i).length : Int) := by
  unfold lenF
  show ((upT R i ++ R i).length : Int) = _
  rw [List.length_append]
  omega
theorem Bs.lenF_bd (h : Bs w b n P R) : ∀ i, i ≤ 6 → 0 ≤ lenF R i ∧ lenF R i ≤ 64 * i := by
  intro i
  induction i with
  | zero => intro _; exact ⟨Int.le_refl _, Int.le_refl _⟩
  | succ i ih =>
    intro hi
    have h1 := ih (by omega)
    have h2 := (h.q i (by omega)).len
    rw [lenF_succ]
    omega
set_option maxRecDepth 20000 in
set_option maxHeartbeats 1000000 in
theorem lenclo (o : Option Qa) (m : Nat) (l : List Tmr) (w0 w : World) (C B : Nat) (hq : Qo w o m l) (d e : Int) (hd : 0 ≤ d ∧ d ≤ 1000) (he : e = d + (l.length : Int)) (x y : Value) (k0 : Blk w B 3 #[.int .i64 d]) (hlow : Below C w0 w) (hC : C ≤ B) :
    Calls Tryz.prog 87 #[x, y, pv o, .pointer (some ⟨B, 0, none⟩)] w fun e' w' => e' = .returned (.tuple #[]) ∧ Below C w0 w' ∧ Blk w' B 3 #[.int .i64 e] := by
  have hl := hq.len
  have CH := fun m => hide (olen (hq.ft ((Ft.refl (fun _ => False) w).drewN m) (fun _ _ => id)))
  have c0 := blkAt k0 0 (.int .i64 d) rfl
  have f1 := k0.free 0
  have H := hide (And.intro k0 hlow)
  obtain ⟨V, hV⟩ : ∃ V, pv o = V := ⟨_, rfl⟩
  rw [hV] at CH ⊢
  obtain ⟨N, hN⟩ : ∃ N : Nat, l.length = N := ⟨_, rfl⟩
  rw [hN] at CH hl he
  have hw : IntKind.i64.wrap (d + (N : Int)) = e := by rw [IntKind.wrap_i64]; omega
  clear hq hV k0 hlow hN he
  go_enter Tryz.func87, Tryz.ntmps87
  go_wp2
  go_region_with (go_at_call 88; refine (unhide (CH _)).mono ?_; rintro e w1 ⟨rfl, rfl⟩)
  all_goals
    go_wp2
    go_end0
    obtain ⟨k0, hlow⟩ := unhide H
    have k0' : Blk (w.drewN 1) B 3 #[.int .i64 d] := k0
    exact ⟨rfl, (show Below C w0 (w.drewN 1) from below_drew hlow).setCell hC _, by simpa using k0'.put 0 (.int .i64 e)⟩
set_option maxRecDepth 20000 in
set_option maxHeartbeats 1000000 in
theorem blen (h : Bs w b n P R) : Calls Tryz.prog 56 #[.pointer (some ⟨b, 0, none⟩)] w fun e w' => e = .returned (.int .i64 ((allT R).length : Int)) ∧ Below w.heap.size w w' := by
  obtain ⟨C, hC⟩ : ∃ C, w.heap.size = C := ⟨_, rfl⟩
  obtain ⟨W1, hW1⟩ : ∃ W1, W1 = w.alloc (.cells #[.int .i64 0] 3) := ⟨_, rfl⟩
  have b1 : Below C w W1 := by rw [hW1, ← hC]; exact one_below _ _
  have k1 : Blk W1 C 3 #[.int .i64 0] := by rw [hW1]; exact Blk.new_at _ _ _ hC.symm
  have CE := hide (each_any b (pv (P 0)) (pv (P 1)) (pv (P 2)) (pv (P 3)) (pv (P 4)) (pv (P 5)) 87 #[.pointer (some ⟨C, 0, none⟩)]
    (fun i w' => Below C w w' ∧ Blk w' C 3 #[.int .i64 (lenF R i)]) W1 (fun _ _ => rfl)
    (fun i w' hJ => (h.below (hC ▸ hJ.1)).blk)
    (fun i w' k l c hi hJ hk hl hc => by
      have hbd := h.lenF_bd i (by omega)
      rw [bcs_at P hi hc]
      exact lenclo _ _ _ w w' C C ((h.below (hC ▸ hJ.1)).q i hi) _ _ ⟨hbd.1, by omega⟩ (lenF_succ R i) _ _ hJ.2 hJ.1 (by omega))
    ⟨b1, k1⟩)
  have HR : Hid (lenF R 6 = ((allT R).length : Int)) := hide rfl
  rw [← unhide HR]
  generalize lenF R 6 = r at *
  have HW := hide hW1
  clear hW1 b1 k1 h
  rw [hC]
  go_enter Tryz.func56, Tryz.ntmps56
  go_wp2_with (go_at_call 62; refine Hid.out ?_)
  refine hide ?_
  rw [← unhide HW]
  refine (unhide CE).mono ?_
  rintro e w3 ⟨rfl, hl, k1⟩
  have c1 := blkAt k1 0 (.int .i64 r) rfl
  have HL := hide hl
  clear hl k1 CE HW
  go_wp2
  go_ret
  exact ⟨rfl, unhide HL⟩
end
end Go.Proofs.YtjjdkkdnlnbedaaGreat


/- A base's All. -/
namespace Go.Proofs.YtjjdkkdnlnbedaaGreat
open Go.RowKit Kt Qu
set_option linter.unusedVariables false

section
variable {w w' : World} {b n : Nat} {P : Nat → Option Qa} {R : Rows6}
set_option maxRecDepth 20000 in
set_option maxHeartbeats 1000000 in
theorem allclo (o : Option Qa) (m : Nat) (l : List Tmr) (w0 w : World) (C B : Nat) (hq : Qo w o m l) (v : Value) (L : List Tmr) (x y : Value) (k0 : Blk w B 28 #[v]) (row : Rg rtm w (B + 1) v L) (hlow : Below C w0 w) (hC : C ≤ B) (hL : L.length ≤ 1000) :
    Calls Tryz.prog 63 #[x, y, pv o, .pointer (some ⟨B, 0, none⟩)] w fun e w' => e = .returned (.tuple #[]) ∧ ∃ v', Below C w0 w' ∧ Blk w' B 28 #[v'] ∧ Rg rtm w' (B + 1) v' (L ++ l) := by
  have hl := hq.len
  have CA := hide (oall (hq.ft ((Ft.refl (fun _ => False) w).drew) (fun _ _ => id)))
  have c0 : w.drew.cell? ⟨B, 0, none⟩ = some v := blkAt k0 0 v rfl
  have f1 : w.drew.frozen? ⟨B, 0, none⟩ = false := k0.free 0
  have hlt := k0.lt
  have H := hide (And.intro k0 (And.intro row hlow))
  have HH := hide (And.intro (hkHeld (W := w.drew) k0 0 v rfl) (hkFree (W := w.drew) k0 0))
  have kd : Blk w.drew B 28 #[v] := k0
  have rd : Rg rtm w.drew (B + 1) v L := row
  have hltd : B + 1 ≤ w.drew.heap.size := hlt
  have HD := hide (And.intro kd rd)
  have HV : ∀ g, v.ownBlock = some g → B + 1 ≤ g := fun g hg => (row.lt g hg).1
  have HV2 := hide HV
  obtain ⟨V, hV⟩ : ∃ V, pv o = V := ⟨_, rfl⟩
  rw [hV] at CA ⊢
  clear hq hV k0 hlow row HV kd rd
  go_enter Tryz.func63, Tryz.ntmps63
  go_wp2
  go_region_law (first
    | (refine rstep_g rtm rfl _ _ rfl v L rfl (unhide HX).2.1 l (unhide HX).1.news (by omega) (by omega) ?_; intro v2 w2 o2 g2; obtain ⟨ra, rcap, hf, -⟩ := o2.form; subst hf; have f4 := blkAt (box_app (unhide HD).1 (unhide HX).2.2 g2 (unhide HV2)) 0 v rfl; have f5 := (box_app (unhide HD).1 (unhide HX).2.2 g2 (unhide HV2)).free 0; have HY := hide (And.intro o2 g2); clear o2 g2)
    | (go_simp; go_at_call 64; refine (unhide CA).mono ?_; rintro e w1 ⟨v1, rfl, r1, hb1⟩; have hs1 := hb1.size; have HX := hide (And.intro r1 (And.intro ((unhide HD).2.below hb1) hb1)); have f2 := (unhide HH).2 _ hb1; have f3 := (unhide HH).1 _ hb1; clear r1 hb1))
  all_goals
    go_wp2
    go_end0
    obtain ⟨k0, -, hlow⟩ := unhide H
    obtain ⟨r1, -, hb1⟩ := unhide HX
    obtain ⟨o2, g2⟩ := unhide HY
    have k2 := box_app (unhide HD).1 hb1 g2 (unhide HV2)
    have e2 : (L ++ l).length = L.length + l.length := List.length_append
    rw [e2] at o2
    have l1 : Below C w0 w1 := (below_drew hlow).trans (hb1.mono (by omega))
    refine ⟨rfl, _, (l1.grown g2 (by omega) (fun k hk => by have := unhide HV2 k hk; omega)).setCell hC _, ?_, o2.setB 0 _⟩
    simpa using k2.put 0 (.slice ra (L.length + l.length) rcap)
set_option maxRecDepth 20000 in
set_option maxHeartbeats 1000000 in
theorem ball (h : Bs w b n P R) : Calls Tryz.prog 29 #[.pointer (some ⟨b, 0, none⟩)] w fun e w' => ∃ v, e = .returned v ∧ Rg rtm w' w.heap.size v (allT R) ∧ Below w.heap.size w w' := by
  obtain ⟨C, hC⟩ : ∃ C, w.heap.size = C := ⟨_, rfl⟩
  obtain ⟨W1, hW1⟩ : ∃ W1, W1 = w.alloc (.cells #[.slice none 0 0] 28) := ⟨_, rfl⟩
  have b1 : Below C w W1 := by rw [hW1, ← hC]; exact one_below _ _
  have k1 : Blk W1 C 28 #[.slice none 0 0] := by rw [hW1]; exact Blk.new_at _ _ _ hC.symm
  have hlen := h.len
  have CE := hide (each_any b (pv (P 0)) (pv (P 1)) (pv (P 2)) (pv (P 3)) (pv (P 4)) (pv (P 5)) 63 #[.pointer (some ⟨C, 0, none⟩)]
    (fun i w' => i ≤ 6 ∧ ∃ v, Below C w w' ∧ Blk w' C 28 #[v] ∧ Rg rtm w' (C + 1) v (upT R i)) W1 (fun _ _ => rfl)
    (fun i w' hJ => (h.below (hC ▸ hJ.2.choose_spec.1)).blk)
    (fun i w' k l c hi hJ hk hl hc => by
      obtain ⟨hi6, v, j1, j2, j3⟩ := hJ
      rw [bcs_at P hi hc]
      refine (allclo _ _ _ w w' C C ((h.below (hC ▸ j1)).q i hi) v _ _ _ j2 j3 j1 (Nat.le_refl _) ?_).mono ?_
      · have h2 := h.lenF_bd i hi6
        unfold lenF at h2
        omega
      · rintro e w2 ⟨rfl, v', q1, q2, q3⟩
        exact ⟨rfl, by omega, v', q1, q2, q3⟩)
    ⟨by omega, _, b1, k1, Rg.nil _ _⟩)
  have HR : Hid (upT R 6 = allT R) := hide rfl
  rw [← unhide HR]
  generalize upT R 6 = r at *
  have HW := hide hW1
  clear hW1 b1 k1 h hlen
  rw [hC]
  go_enter Tryz.func29, Tryz.ntmps29
  go_wp2_with (go_at_call 62; refine Hid.out ?_)
  refine hide ?_
  rw [← unhide HW]
  refine (unhide CE).mono ?_
  rintro e w3 ⟨rfl, -, v, hl, k1, row⟩
  have c1 := blkAt k1 0 v rfl
  obtain ⟨ra, rcap, hf, -⟩ := row.form
  subst hf
  have HL := hide (And.intro hl row)
  clear hl k1 CE HW row
  go_wp2
  go_ret
  exact ⟨_, rfl, (unhide HL).2.mono (Nat.le_succ _), (unhide HL).1⟩
end
end Go.Proofs.YtjjdkkdnlnbedaaGreat

