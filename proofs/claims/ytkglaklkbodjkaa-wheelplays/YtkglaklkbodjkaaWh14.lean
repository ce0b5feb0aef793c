import Derived.Test.YtkglaklkbodjkaaWh13
namespace Go.Proofs.Ytkglaklkbodjkaa
open Go.RowKit Wh
set_option linter.unusedVariables false

section
variable {B C H Mb now n : Nat} {sv sv' : Nat → Value} {sl : Nat → List Int} {L : List Wh.Item} {f : Int → Option Int} {sz : Nat} {w0 w w' : World}
/-- What changed lies outside a wheel: it is as it was. -/
theorem Whl.apart (h : Whl w B H Mb now n f sz sv sl) {F F' : Nat → Prop} (k : Fr w w' F F') (hd : ∀ g, Foot H Mb sv g → ¬ F g) : Whl w' B H Mb now n f sz sv sl := by
  have hk : ∀ g, Foot H Mb sv g → w'.heap[g]? = w.heap[g]? := fun g hF => k.block g (h.lt g hF) (hd g hF)
  refine ⟨?_, h.mp.same (hk Mb (.inr (.inl rfl))), fun j hj => k.row (h.rows j hj) fun g hg => hd g (.inr (.inr ⟨j, hj, hg⟩)), h.ap, h.lo⟩
  unfold Blk
  rw [hk H (.inl rfl)]; exact h.blk
theorem Has1.apart (h : Has1 w B H Mb now n L sv) {F F' : Nat → Prop} (k : Fr w w' F F') (hd : ∀ g, Foot H Mb sv g → ¬ F g) : Has1 w' B H Mb now n L sv := by
  obtain ⟨sl, h1, h2⟩ := h
  exact ⟨sl, h1.apart k hd, h2⟩
theorem Has1.lt (h : Has1 w B H Mb now n L sv) (g : Nat) (hg : Foot H Mb sv g) : g < w.heap.size := by
  obtain ⟨sl, h1, _⟩ := h
  exact h1.lt g hg
/-- A wheel that a law made. -/
structure Wv (C : Nat) (w0 w : World) (B H Mb now n : Nat) (L : List Wh.Item) (sv : Nat → Value) : Prop where
  has : Has1 w B H Mb now n L sv
  rw : Rw now L
  bs : B ≤ w.heap.size
  low : Below C w0 w
  cs : C ≤ w.heap.size
  foot : ∀ g, Foot H Mb sv g → C ≤ g
theorem Wv.step {now2 n2 : Nat} {L2 : List Wh.Item} (h : Wv C w0 w B H Mb now n L sv) (h2 : Has1 w' B H Mb now2 n2 L2 sv') (hr : Rw now2 L2) (k : Fr w w' (Foot H Mb sv) (Foot H Mb sv')) : Wv C w0 w' B H Mb now2 n2 L2 sv' := by
  refine ⟨h2, hr, Nat.le_trans h.bs k.size, ⟨k.os.trans h.low.os, k.tape.trans h.low.tape, k.output.trans h.low.output, Nat.le_trans h.low.size k.size, fun g hg => ?_⟩, Nat.le_trans h.cs k.size, fun g hg => ?_⟩
  · rw [k.block g (Nat.lt_of_lt_of_le hg h.cs) (fun hF => by have := h.foot g hF; omega)]
    exact h.low.block g hg
  · rcases k.foot g hg with h1 | h1
    · exact h.foot g h1
    · exact Nat.le_trans h.cs h1
theorem Wv.below (h : Wv C w0 w B H Mb now n L sv) (hb : Below w.heap.size w w') : Wv C w0 w' B H Mb now n L sv := by
  obtain ⟨sl, h1, h2⟩ := h.has
  exact h.step ⟨sl, h1.below hb, h2⟩ h.rw (Fr.of_below _ hb)
theorem Wv.grown (h : Wv C w0 w B H Mb now n L sv) {row : Option Nat} (hg : w.grownBy w' row) (hn : ∀ g, row = some g → ¬ Foot H Mb sv g ∧ C ≤ g) : Wv C w0 w' B H Mb now n L sv := by
  obtain ⟨sl, h1, h2⟩ := h.has
  exact ⟨⟨sl, h1.beside hg (fun g e => (hn g e).1), h2⟩, h.rw, Nat.le_trans h.bs hg.size, ⟨hg.os.trans h.low.os, hg.tape.trans h.low.tape, hg.output.trans h.low.output, Nat.le_trans h.low.size hg.size, fun g hgl => by
    rw [hg.block g (Nat.lt_of_lt_of_le hgl h.cs) (fun e => by have := (hn g e.symm).2; omega)]; exact h.low.block g hgl⟩, Nat.le_trans h.cs hg.size, h.foot⟩
theorem two_nil : Slots (lev 0) [] (two fun _ => []) := fun j d _ _ => rfl
theorem new_has (w : World) (hb : Below C w0 w) (hC : C ≤ w.heap.size) :
    Calls Try.prog 11 #[] w fun e w' => ∃ B H Mb, e = .returned (.pointer (some ⟨H, 0, none⟩)) ∧ Wv C w0 w' B H Mb 0 0 [] (fun _ => .slice none 0 0) ∧ Below w.heap.size w w' ∧ ∀ g, Foot H Mb (fun _ => .slice none 0 0) g → w.heap.size ≤ g := by
  refine (wnew_any w).mono ?_
  rintro e w' ⟨H, Mb, rfl, h1, h2, h3, h4⟩
  have hf : ∀ g, Foot H Mb (fun _ => .slice none 0 0) g → w.heap.size ≤ g := by
    rintro g (rfl | rfl | ⟨j, hj, e⟩)
    · exact h3
    · exact h4
    · cases e
  exact ⟨_, H, Mb, rfl, ⟨⟨_, h1, two_nil⟩, ⟨(fun x hx => by cases hx), List.nodup_nil, (fun x hx => by cases hx), by decide, by decide⟩, Nat.le_refl _, hb.trans (h2.mono hC), Nat.le_trans hC h2.size, fun g hg => Nat.le_trans hC (hf g hg)⟩, h2, hf⟩
/-- What a putting comes to, and leaves. -/
def putE (now : Nat) (L : List Wh.Item) (id t : Int) : Int := if t < 1 ∨ 65535 < t then 6 else if id ∈ L.map (·.1) then 9 else if L.length = 1024 then 3 else 0
def putL (now : Nat) (L : List Wh.Item) (id t : Int) : List Wh.Item := if t < 1 ∨ 65535 < t then L else if id ∈ L.map (·.1) then L else if L.length = 1024 then L else L ++ [(id, now + t.toNat)]
theorem wput (h : Wv C w0 w B H Mb now n L sv) (hnow : now ≤ 100000000000) (hn : n < 1000000) (id t : Int) (hid : isI id) :
    Calls Try.prog 13 #[.pointer (some ⟨H, 0, none⟩), .int .i64 id, .int .i64 t] w fun e w' => e = .returned (.int .i64 (putE now L id t)) ∧ ∃ n' sv', n' ≤ n + 1 ∧ Wv C w0 w' B H Mb now n' (putL now L id t) sv' ∧ Fr w w' (Foot H Mb sv) (Foot H Mb sv') := by
  unfold putE putL
  by_cases ht : t < 1 ∨ 65535 < t
  · rw [if_pos ht, if_pos ht]
    refine (put_range H id t w ht).mono ?_
    rintro e w' ⟨rfl, rfl⟩
    exact ⟨rfl, n, sv, by omega, h, Fr.refl _ _⟩
  · rw [if_neg ht, if_neg ht]
    obtain ⟨k, rfl⟩ := Int.eq_ofNat_of_zero_le (show 0 ≤ t by omega)
    rw [Int.toNat_natCast]
    by_cases hm : id ∈ L.map (·.1)
    · rw [if_pos hm, if_pos hm]
      obtain ⟨sl, h1, h2⟩ := h.has
      obtain ⟨y, hy, rfl⟩ := List.mem_map.1 hm
      refine (put_busy w h1 y.1 hid y.2 (mapOf_mem h.rw.fresh hy) k (by omega) (by omega)).mono ?_
      rintro e w' ⟨rfl, rfl⟩
      exact ⟨rfl, n, sv, by omega, h, Fr.refl _ _⟩
    · rw [if_neg hm, if_neg hm]
      by_cases hl : L.length = 1024
      · rw [if_pos hl, if_pos hl]
        obtain ⟨sl, h1, h2⟩ := h.has
        rw [hl] at h1
        refine (put_full w h1 id hid (mapOf_none hm) k (by omega) (by omega)).mono ?_
        rintro e w' ⟨rfl, rfl⟩
        exact ⟨rfl, n, sv, by omega, h, Fr.refl _ _⟩
      · rw [if_neg hl, if_neg hl]
        have hl2 : L.length < 1024 := by have := h.rw.len; omega
        refine (put_ok w h.has h.bs h.rw hnow hn id hid hm hl2 k (by omega) (by omega)).mono ?_
        rintro e w' ⟨rfl, sv', h1, h2⟩
        exact ⟨rfl, n + 1, sv', Nat.le_refl _, h.step h1 (rw_put h.rw hid hm hl2 (by omega) (by omega)) h2, h2⟩
theorem wadvance (h : Wv C w0 w B H Mb now n L sv) (hnow : now ≤ 100000000000) (t : Int) (T : Nat) (hT : (T : Int) = max 0 (min t 65535)) :
    Calls Try.prog 16 #[.pointer (some ⟨H, 0, none⟩), .int .i64 t] w fun e w' => ∃ v, e = .returned v ∧ Ir w' w.heap.size v (ran now L T).2 ∧ ∃ sv', Wv C w0 w' B H Mb (now + T) n (ran now L T).1 sv' ∧
      Fr w w' (Foot H Mb sv) (Foot H Mb sv') ∧ ∀ g, v.ownBlock = some g → ¬ Foot H Mb sv' g := by
  refine (advance_any w h.has h.bs h.rw hnow t T hT).mono ?_
  rintro e w' ⟨v, rfl, h1, sv', h2, h3, h4⟩
  exact ⟨v, rfl, h1, sv', h.step h2 (ran_rw h.rw T (by omega)) h3, h3, h4⟩
theorem wleft (h : Wv C w0 w B H Mb now n L sv) (id : Int) (hid : isI id) (d : Nat) (hm : (id, d) ∈ L) : Calls Try.prog 17 #[.pointer (some ⟨H, 0, none⟩), .int .i64 id] w fun e w' => e = .returned (.tuple #[.int .i64 ((d - now : Nat) : Int), .bool true]) ∧ w' = w := by
  obtain ⟨sl, h1, h2⟩ := h.has
  have h3 := h.rw.due _ hm
  have h4 := h.rw.now
  exact wleft_in w h1 id hid d (mapOf_mem h.rw.fresh hm) (by have := h3.1; simp only at this; omega) (by have := h3.2; simp only at this; omega)
theorem wlen (h : Wv C w0 w B H Mb now n L sv) : Calls Try.prog 19 #[.pointer (some ⟨H, 0, none⟩)] w fun e w' => e = .returned (.int .i64 (L.length : Int)) ∧ w' = w := by
  obtain ⟨sl, h1, h2⟩ := h.has
  exact wlen_any w h1
theorem wnow (h : Wv C w0 w B H Mb now n L sv) : Calls Try.prog 20 #[.pointer (some ⟨H, 0, none⟩)] w fun e w' => e = .returned (.int .i64 (now : Int)) ∧ w' = w := by
  obtain ⟨sl, h1, h2⟩ := h.has
  exact wnow_any w h1
theorem drop_nil (id : Int) (w : World) : Calls Try.prog 14 #[.pointer none, .int .i64 id] w fun e w' => e = .returned (.bool false) ∧ Below w.heap.size w w' := by
  go_enter Try.func14, Try.ntmps14
  go_wp2
  go_ret
  exact ⟨rfl, below1 _ _⟩
end
theorem ran_add (now : Nat) (L : List Wh.Item) (a b : Nat) : ran now L (a + b) = ((ran (now + a) (ran now L a).1 b).1, (ran now L a).2 ++ (ran (now + a) (ran now L a).1 b).2) := by
  induction b with
  | zero => show ran now L a = ((ran now L a).1, (ran now L a).2 ++ []); rw [List.append_nil]
  | succ b ih =>
    show (restOf (now + (a + b) + 1) (ran now L (a + b)).1, (ran now L (a + b)).2 ++ firedOf (now + (a + b) + 1) (ran now L (a + b)).1) = _
    rw [ih]
    show _ = (restOf (now + a + b + 1) (ran (now + a) (ran now L a).1 b).1, (ran now L a).2 ++ ((ran (now + a) (ran now L a).1 b).2 ++ firedOf (now + a + b + 1) (ran (now + a) (ran now L a).1 b).1))
    rw [show now + (a + b) + 1 = now + a + b + 1 by omega, List.append_assoc]
end Go.Proofs.Ytkglaklkbodjkaa
