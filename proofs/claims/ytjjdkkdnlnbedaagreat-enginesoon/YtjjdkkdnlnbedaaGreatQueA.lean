import Derived.Test.YtjjdkkdnlnbedaaGreatTreeB
import Derived.Test.YtjjdkkdnlnbedaaGreatRows
import Derived.Test.YtjjdkkdnlnbedaaGreatQueM
import Derived.WalkKit
import Derived.WalkSpells
import Derived.WalkLawsBesides
import Derived.Lib.Mul64
import Derived.Laws.Bits64b
import Derived.Test.YtjjdkkdnlnbedaaGreatTreeA
import Derived.Maps.OwnSet
import Derived.Maps.OwnOps
import Derived.DeepKeys4
namespace Go.Proofs.YtjjdkkdnlnbedaaGreat
open Go.RowKit Kt

theorem ret_bool {a b : Bool} (h : a = b) : Ending.returned (.bool a) = .returned (.bool b) := by rw [h]

set_option maxHeartbeats 400000 in
theorem kclamp_any (a : Int) (w : World) :
    Calls Tryz.prog 98 #[.int .i64 a] w fun e w' => e = .returned (.int .i64 (clampZ a)) ∧ w' = w := by
  go_enter Tryz.func98, Tryz.ntmps98
  go_wp2
  all_goals
    go_ret
    refine ⟨ret_int ?_, rfl⟩
    unfold clampZ
    repeat' split at *
    all_goals omega

set_option maxHeartbeats 400000 in
theorem rclamp_any (a : Int) (w : World) :
    Calls Tryz.prog 18 #[.int .i64 a] w fun e w' => e = .returned (.int .i64 (clampZ a)) ∧ w' = w := by
  go_enter Tryz.func18, Tryz.ntmps18
  go_wp2
  all_goals
    go_ret
    refine ⟨ret_int ?_, rfl⟩
    unfold clampZ
    repeat' split
    all_goals omega

set_option maxHeartbeats 400000 in
theorem never_any (a : Int) (w : World) :
    Calls Tryz.prog 128 #[.int .i64 a] w fun e w' => e = .returned (.bool (neverB a)) ∧ w' = w := by
  go_enter Tryz.func128, Tryz.ntmps128
  go_wp2
  all_goals
    go_ret
    exact ⟨rfl, rfl⟩

theorem add_world (a b : Int) (w : World) :
    Calls Tryz.prog 130 #[.int .i64 a, .int .i64 b] w fun e w' => e = .returned (.int .i64 (addZ a b)) ∧ w' = w := by
  have ba := clampZ_bd a
  have bb := clampZ_bd b
  by_cases h : 4611686018427387903 ≤ a
  · have hn : neverB a = true := by simp [neverB, h]
    go_enter Tryz.func130, Tryz.ntmps130
    go_wp2_with (first | (go_at_call 128; refine (never_any _ _).mono ?_; rintro e w' ⟨rfl, rfl⟩) | (go_at_call 98; refine (kclamp_any _ _).mono ?_; rintro e w' ⟨rfl, rfl⟩))
    go_ret
    exact ⟨ret_int (by unfold addZ; split <;> first | rfl | omega), rfl⟩
  · have hn : neverB a = false := by simp [neverB, h]
    go_enter Tryz.func130, Tryz.ntmps130
    go_wp2_with (first | (go_at_call 128; refine (never_any _ _).mono ?_; rintro e w' ⟨rfl, rfl⟩) | (go_at_call 98; refine (kclamp_any _ _).mono ?_; rintro e w' ⟨rfl, rfl⟩))
    go_ret
    exact ⟨ret_int (by unfold addZ; split <;> first | rfl | omega), rfl⟩

theorem radd_any (a b : Int) (w : World) :
    Calls Tryz.prog 105 #[.int .i64 a, .int .i64 b] w fun e w' => e = .returned (.int .i64 (addZ a b)) ∧ w' = w := by
  have ba := clampZ_bd a
  have bb := clampZ_bd b
  by_cases h : 4611686018427387903 ≤ a
  all_goals
    go_enter Tryz.func105, Tryz.ntmps105
    go_wp2_with (go_at_call 18; refine (rclamp_any _ _).mono ?_; rintro e w' ⟨rfl, rfl⟩)
    go_ret
    exact ⟨ret_int (by unfold addZ; split <;> first | rfl | omega), rfl⟩

theorem rsub_any (a b : Int) (w : World) :
    Calls Tryz.prog 21 #[.int .i64 a, .int .i64 b] w fun e w' => e = .returned (.int .i64 (subZ a b)) ∧ w' = w := by
  have ba := clampZ_bd a
  have bb := clampZ_bd b
  by_cases h : 4611686018427387903 ≤ a
  all_goals
    go_enter Tryz.func21, Tryz.ntmps21
    go_wp2_with (go_at_call 18; refine (rclamp_any _ _).mono ?_; rintro e w' ⟨rfl, rfl⟩)
    go_ret
    exact ⟨ret_int (by unfold subZ; split <;> first | rfl | omega), rfl⟩

theorem sub_any (a b : Int) (w : World) :
    Calls Tryz.prog 120 #[.int .i64 a, .int .i64 b] w fun e w' => e = .returned (.int .i64 (subZ a b)) ∧ w' = w := by
  have bb := clampZ_bd b
  go_enter Tryz.func120, Tryz.ntmps120
  go_wp2_with (first | (go_at_call 98; refine (kclamp_any _ _).mono ?_; rintro e w' ⟨rfl, rfl⟩) | (go_at_call 130; refine (add_world _ _ _).mono ?_; rintro e w' ⟨rfl, rfl⟩))
  go_ret
  exact ⟨ret_int (addZ_neg a b), rfl⟩

theorem until_any (a b : Int) (w : World) :
    Calls Tryz.prog 103 #[.int .i64 a, .int .i64 b] w fun e w' => e = .returned (.int .i64 (untilZ a b)) ∧ w' = w := by
  by_cases h : subZ b a < 0
  all_goals
    go_enter Tryz.func103, Tryz.ntmps103
    go_wp2_with (go_at_call 120; refine (sub_any _ _ _).mono ?_; rintro e w' ⟨rfl, rfl⟩)
    go_ret
    exact ⟨ret_int (by unfold untilZ; split <;> first | rfl | omega), rfl⟩

theorem between_any (a b c : Int) (w : World) :
    Calls Tryz.prog 129 #[.int .i64 a, .int .i64 b, .int .i64 c] w fun e w' => e = .returned (.int .i64 (betweenZ a b c)) ∧ w' = w := by
  go_enter Tryz.func129, Tryz.ntmps129
  go_wp2_with (go_at_call 98; refine (kclamp_any _ _).mono ?_; rintro e w' ⟨rfl, rfl⟩)
  all_goals
    go_ret
    refine ⟨ret_int ?_, rfl⟩
    unfold betweenZ
    repeat' split at *
    all_goals omega
end Go.Proofs.YtjjdkkdnlnbedaaGreat


/- Maps of keys of any kind to elements of any kind that the program owns, as functions. -/
namespace Go.Proofs.YtjjdkkdnlnbedaaGreat
open Go.RowKit

/-- How an element reads here: as itself. -/
def asIs (v : Value) : Option (DataW Value × List MemPlace) := some (.held v, [])
/-- Block b is a map that tells what f tells, keys by mk, elements by val; it has sz entries, and came by n stores. -/
def GMap {α β : Type} (P : Program) (k : TypeId) (mk : α → Value) (val : β → Value) (w : World) (b n : Nat) (f : α → Option β) (sz : Nat) : Prop :=
  ∃ D : DataW Value, w.ownsMap P k asIs b n D ∧ (∀ a kl, keyOf P k (mk a) = some kl → Maps.has D kl = (f a).isSome ∧ ∀ z, D.atKey kl (.held z) = .held (((f a).map val).getD z)) ∧ Maps.size D = sz
section
variable {α β : Type} {P : Program} {k t e : TypeId} {mk : α → Value} {val : β → Value} {w w' : World} {b n : Nat} {f : α → Option β} {sz : Nat}
theorem GMap.made (w : World) : GMap P k mk val (w.alloc (.map #[] 0)) w.heap.size 0 (fun _ : α => (none : Option β)) 0 :=
  ⟨.map [], World.ownsMap_made w _ _ _, fun _ _ _ => ⟨rfl, fun _ => rfl⟩, rfl⟩
theorem GMap.lt (h : GMap P k mk val w b n f sz) : b < w.heap.size := by obtain ⟨D, h, _⟩ := h; exact h.lt
theorem GMap.same (h : GMap P k mk val w b n f sz) (hb : w'.heap[b]? = w.heap[b]?) : GMap P k mk val w' b n f sz := by
  obtain ⟨D, ⟨es, clock, h1, h2⟩, h3⟩ := h
  exact ⟨D, ⟨es, clock, by rw [hb]; exact h1, h2⟩, h3⟩
theorem GMap.below (h : GMap P k mk val w b n f sz) {B : Nat} (hb : Below B w w') (hB : b < B) : GMap P k mk val w' b n f sz := h.same (hb.block b hB)
theorem GMap.grown (h : GMap P k mk val w b n f sz) {row : Option Nat} (hg : w.grownBy w' row) (hne : some b ≠ row) : GMap P k mk val w' b n f sz := h.same (hg.block b h.lt hne)
theorem GMap.set (h : GMap P k mk val w b n f sz) {c : Nat} (hk : c ≠ b) (j : Nat) (v : Value) : GMap P k mk val (w.setCell ⟨c, j, none⟩ v) b n f sz := h.same (Below.heap_setCell w ⟨c, j, none⟩ v b (fun e => hk e.symm))
theorem GMap.mono (h : GMap P k mk val w b n f sz) {n' : Nat} (hn : n ≤ n') : GMap P k mk val w b n' f sz := by
  obtain ⟨D, h1, h2⟩ := h
  exact ⟨D, h1.mono hn, h2⟩
theorem GMap.size_le (h : GMap P k mk val w b n f sz) : sz ≤ n := by
  obtain ⟨D, h1, _, h2⟩ := h
  rw [← h2]; exact h1.size_le
theorem GMap.congr (h : GMap P k mk val w b n f sz) {g : α → Option β} (hg : ∀ a, (keyOf P k (mk a)).isSome = true → g a = f a) : GMap P k mk val w b n g sz := by
  obtain ⟨D, h1, h2, h3⟩ := h
  exact ⟨D, h1, fun a kl ha => by rw [hg a (by rw [ha]; rfl)]; exact h2 a kl ha, h3⟩
theorem GMap.look_some (h : GMap P k mk val w b n f sz) (K : Go.Maps.Keyed P k) (ht : P.underlying t = some (.map k e)) {z : Value} (hz : (zeroValue e).run P w = .ok z w) (a : α) (ha : (keyOf P k (mk a)).isSome = true) {v : β} (hv : f a = some v) (c : Bool) :
    (Instr.lookup t (.map (some b)) (mk a) c).run P w = .ok (if c then .tuple #[val v, .bool true] else val v) w := by
  obtain ⟨D, h1, h2, _⟩ := h
  obtain ⟨kl, hkl⟩ := Option.isSome_iff_exists.1 ha
  obtain ⟨e1, e2⟩ := h2 a kl hkl
  cases c with
  | true =>
    obtain ⟨x, ps, hr, hx⟩ := h1.look_ok K ht hz (zd := .held z) (zp := []) rfl hkl
    rw [e2, hv] at hx
    cases hx
    rw [hr, e1, hv]; rfl
  | false =>
    obtain ⟨x, ps, hr, hx⟩ := h1.lookup K ht hz (zd := .held z) (zp := []) rfl hkl
    rw [e2, hv] at hx
    cases hx
    rw [hr]; rfl
theorem GMap.look_none (h : GMap P k mk val w b n f sz) (K : Go.Maps.Keyed P k) (ht : P.underlying t = some (.map k e)) {z : Value} (hz : (zeroValue e).run P w = .ok z w) (a : α) (ha : (keyOf P k (mk a)).isSome = true) (hv : f a = none) (c : Bool) :
    (Instr.lookup t (.map (some b)) (mk a) c).run P w = .ok (if c then .tuple #[z, .bool false] else z) w := by
  obtain ⟨D, h1, h2, _⟩ := h
  obtain ⟨kl, hkl⟩ := Option.isSome_iff_exists.1 ha
  obtain ⟨e1, e2⟩ := h2 a kl hkl
  cases c with
  | true =>
    obtain ⟨x, ps, hr, hx⟩ := h1.look_ok K ht hz (zd := .held z) (zp := []) rfl hkl
    rw [e2, hv] at hx
    cases hx
    rw [hr, e1, hv]; rfl
  | false =>
    obtain ⟨x, ps, hr, hx⟩ := h1.lookup K ht hz (zd := .held z) (zp := []) rfl hkl
    rw [e2, hv] at hx
    cases hx
    rw [hr]; rfl
theorem GMap.len (h : GMap P k mk val w b n f sz) (ht : P.underlying t = some (.map k e)) (ty : TypeId) : (Builtin.len_ #[t] ty #[.map (some b)]).run P w = .ok (.int .i64 (sz : Int)) w := by
  obtain ⟨D, h1, _, h3⟩ := h
  rw [h1.len ht ty, h3]
theorem GMap.upd [DecidableEq α] (h : GMap P k mk val w b n f sz) (K : Go.Maps.Keyed P k) (ht : P.underlying t = some (.map k e)) (hn : n < 1000000000) (hi : ∀ x y, mk x = mk y → x = y) (a : α) (ha : (keyOf P k (mk a)).isSome = true) (v : β) : ∃ w', (Instr.mapUpdate t (.map (some b)) (mk a) (val v)).run P w = .ok () w' ∧
    GMap P k mk val w' b (n + 1) (fun x => if x = a then some v else f x) (if (f a).isSome = true then sz else sz + 1) ∧ w.grownBy w' (some b) := by
  obtain ⟨D, h1, h2, h3⟩ := h
  obtain ⟨kl, hkl⟩ := Option.isSome_iff_exists.1 ha
  obtain ⟨w', hr, ho, hg⟩ := h1.update K ht (show n < maxLen by unfold maxLen; omega) hkl (val := val v) (d := .held (val v)) (ps := []) rfl
  refine ⟨w', hr, ⟨_, ho, fun x xl hx => ?_, ?_⟩, hg⟩
  · by_cases e : x = a
    · subst e
      rw [hkl] at hx
      cases hx
      show _ = (if x = x then some v else f x).isSome ∧ ∀ z, _ = DataW.held (((if x = x then some v else f x).map val).getD z)
      rw [if_pos rfl]
      exact ⟨Maps.has_put_same h1.isMap (K.key hkl) _, fun z => Maps.atKey_put_same h1.isMap (K.key hkl) _ _⟩
    · have hne : xl ≠ kl := fun he => e (hi _ _ (K.inj hx (he ▸ hkl)))
      show _ = (if x = a then some v else f x).isSome ∧ ∀ z, _ = DataW.held (((if x = a then some v else f x).map val).getD z)
      rw [if_neg e, Maps.has_put_other hne]
      exact ⟨(h2 x xl hx).1, fun z => by rw [Maps.atKey_put_other hne]; exact (h2 x xl hx).2 z⟩
  · rw [Maps.size_put (h1.tidy K), (h2 a kl hkl).1, h3]
theorem GMap.del [DecidableEq α] (h : GMap P k mk val w b n f sz) (K : Go.Maps.Keyed P k) (ht : P.underlying t = some (.map k e)) (hi : ∀ x y, mk x = mk y → x = y) (a : α) (ha : (keyOf P k (mk a)).isSome = true) (ty : TypeId) : ∃ w', (Builtin.delete_ #[t, k] ty #[.map (some b), mk a]).run P w = .ok (.tuple #[]) w' ∧
    GMap P k mk val w' b n (fun x => if x = a then none else f x) (if (f a).isSome = true then sz - 1 else sz) ∧ w.grownBy w' (some b) := by
  obtain ⟨D, h1, h2, h3⟩ := h
  obtain ⟨kl, hkl⟩ := Option.isSome_iff_exists.1 ha
  obtain ⟨w', hr, ho, ht'⟩ := h1.drop K ht hkl ty
  refine ⟨w', hr, ⟨_, ho, fun x xl hx => ?_, ?_⟩, ht'.grown⟩
  · by_cases e : x = a
    · subst e
      rw [hkl] at hx
      cases hx
      show _ = (if x = x then none else f x).isSome ∧ ∀ z, _ = DataW.held (((if x = x then none else f x).map val).getD z)
      rw [if_pos rfl]
      exact ⟨Maps.has_del_same, fun z => Maps.atKey_del_same _⟩
    · have hne : xl ≠ kl := fun he => e (hi _ _ (K.inj hx (he ▸ hkl)))
      show _ = (if x = a then none else f x).isSome ∧ ∀ z, _ = DataW.held (((if x = a then none else f x).map val).getD z)
      rw [if_neg e, Maps.has_del_other hne]
      exact ⟨(h2 x xl hx).1, fun z => by rw [Maps.atKey_del_other hne]; exact (h2 x xl hx).2 z⟩
  · have := Maps.size_del (k := kl) (h1.tidy K)
    rw [(h2 a kl hkl).1, h3] at this
    split
    · rename_i e; rw [e] at this; simp at this; omega
    · rename_i e
      rw [Bool.not_eq_true] at e
      rw [e] at this; simpa using this
end
/-- A number that an int holds. -/
def isI (k : Int) : Prop := (Lit.int .i64 k).wf = true
theorem isI_of {k : Int} (h0 : -9223372036854775808 ≤ k) (h1 : k ≤ 9223372036854775807) : isI k := by
  unfold isI
  simp [Lit.wf, IntKind.min, IntKind.max, IntKind.signed, IntKind.bits]
  omega
theorem isI_to {k : Int} (h : isI k) : -9223372036854775808 ≤ k ∧ k ≤ 9223372036854775807 := by
  unfold isI at h
  simp [Lit.wf, IntKind.min, IntKind.max, IntKind.signed, IntKind.bits] at h
  omega
end Go.Proofs.YtjjdkkdnlnbedaaGreat


namespace Go.Proofs.YtjjdkkdnlnbedaaGreat
open Go.RowKit

/-- Of what was there just blocks of F may have changed. -/
structure Ft (F : Nat → Prop) (w w' : World) : Prop where
  os : w'.os = w.os
  tape : w'.tape = w.tape
  output : w'.output = w.output
  size : w.heap.size ≤ w'.heap.size
  block : ∀ k, k < w.heap.size → ¬ F k → w'.heap[k]? = w.heap[k]?
section
variable {F F' : Nat → Prop} {a b c : World}
theorem Ft.refl (F : Nat → Prop) (w : World) : Ft F w w := ⟨rfl, rfl, rfl, Nat.le_refl _, fun _ _ _ => rfl⟩
theorem Ft.trans (h : Ft F a b) (k : Ft F b c) : Ft F a c :=
  ⟨k.os.trans h.os, k.tape.trans h.tape, k.output.trans h.output, Nat.le_trans h.size k.size, fun i hi h1 => (k.block i (Nat.lt_of_lt_of_le hi h.size) h1).trans (h.block i hi h1)⟩
theorem Ft.mono (h : Ft F a b) (hF : ∀ k, F k → F' k) : Ft F' a b := ⟨h.os, h.tape, h.output, h.size, fun k hk hn => h.block k hk (fun x => hn (hF k x))⟩
theorem Ft.of_below (F : Nat → Prop) (h : Below a.heap.size a b) : Ft F a b := ⟨h.os, h.tape, h.output, h.size, fun i hi _ => h.block i hi⟩
theorem Ft.drew (h : Ft F a b) : Ft F a b.drew := ⟨h.os, h.tape, h.output, h.size, h.block⟩
theorem Ft.drewN (h : Ft F a b) (m : Nat) : Ft F a (b.drewN m) := ⟨h.os, h.tape, h.output, h.size, h.block⟩
theorem Ft.alloc (h : Ft F a b) (o : Obj) : Ft F a (b.alloc o) := h.trans (Ft.of_below F ((Below.refl _ _).alloc (Nat.le_refl _) o))
theorem Ft.set (h : Ft F a b) {k : Nat} (hk : F k ∨ a.heap.size ≤ k) (j : Nat) (v : Value) : Ft F a (b.setCell ⟨k, j, none⟩ v) :=
  ⟨h.os, h.tape, h.output, by simpa using h.size, fun i hi h1 => (Below.heap_setCell b ⟨k, j, none⟩ v i (fun e => by
    have e' : i = k := e
    rcases hk with hk | hk
    · exact h1 (e' ▸ hk)
    · omega)).trans (h.block i hi h1)⟩
theorem Ft.grown (h : Ft F a b) {row : Option Nat} (hg : b.grownBy c row) (hr : ∀ g, row = some g → F g ∨ a.heap.size ≤ g) : Ft F a c :=
  ⟨hg.os.trans h.os, hg.tape.trans h.tape, hg.output.trans h.output, Nat.le_trans h.size hg.size, fun i hi h1 => (hg.block i (Nat.lt_of_lt_of_le hi h.size) (fun e => by
    rcases hr i e.symm with h2 | h2
    · exact h1 h2
    · omega)).trans (h.block i hi h1)⟩
theorem Blk.ft {g : Nat} {t : TypeId} {cs : Array Value} (h : Blk a g t cs) (ht : Ft F a b) (hn : ¬ F g) : Blk b g t cs := by
  have hl := h.lt
  unfold Blk at *
  rw [ht.block g hl hn]; exact h
theorem Ft.cell (h : Ft F a b) {x : Addr} {v : Value} (hc : a.cell? x = some v) (hn : ¬ F x.block) : b.cell? x = some v := by
  have hl := World.block_lt_of_cell? a x hc
  have := h.block x.block hl hn
  unfold World.cell? at hc ⊢
  rw [this]; exact hc
theorem Ft.low {B : Nat} {w : World} (hb : Below B w a) (h : Ft F a b) (hg : ∀ k, F k → B ≤ k) (hs : B ≤ a.heap.size) : Below B w b :=
  ⟨h.os.trans hb.os, h.tape.trans hb.tape, h.output.trans hb.output, Nat.le_trans hb.size h.size, fun i hi => (h.block i (by omega) (fun hf => by have := hg i hf; omega)).trans (hb.block i hi)⟩
theorem GMap.ft {α β : Type} {P : Program} {k : TypeId} {mk : α → Value} {val : β → Value} {g n : Nat} {f : α → Option β} {sz : Nat} (h : GMap P k mk val a g n f sz) (ht : Ft F a b) (hn : ¬ F g) : GMap P k mk val b g n f sz := h.same (ht.block g h.lt hn)
theorem below_drew {B : Nat} {w w' : World} (h : Below B w w') : Below B w w'.drew := ⟨h.os, h.tape, h.output, h.size, h.block⟩
end
end Go.Proofs.YtjjdkkdnlnbedaaGreat

