import Derived.Test.YtpkadbjgkoijiaaTq3
namespace Go.Proofs.Ytpkadbjgkoijiaa
open Go.RowKit

theorem keys_nil (w : World) : Calls Try.prog 9 #[.pointer none] w fun e w' => e = .returned (.slice none 0 0) ∧ w' = w := by
  go_enter Try.func9, Try.ntmps9
  go_wp2
  go_ret
  exact ⟨rfl, rfl⟩
theorem tput_full (T G P : Nat) (tf : Nat → Int) (L : List It) (w : World) (h : Tre w T G P tf L) (hl : L.length = P) (a b : Int) :
    Calls Try.prog 10 #[.pointer (some ⟨T, 0, none⟩), .agg #[.int .i64 a, .int .i64 b]] w fun e w' => e = .returned (.tuple #[.agg #[.int .i64 0, .int .i64 0], .int .i64 3]) ∧ Below w.heap.size w w' := by
  obtain ⟨st, t, fl, o, i, rfl, f⟩ := h
  rw [List.length_map] at hl
  have hfl : fl = [] := by
    apply List.length_eq_zero_iff.1
    have := i.cover
    omega
  subst hfl
  exact put_full T G P st w o i.chain a b
/-- The handles that are gone. -/
def grow : List (Nat × Int) → List Value
  | [] => []
  | h :: l => .int .i64 h.1 :: .int .i64 h.2 :: grow l
theorem grow_len : ∀ l, (grow l).length = l.length * 2
  | [] => rfl
  | h :: l => by rw [grow, List.length_cons, List.length_cons, grow_len l, List.length_cons]; omega
theorem grow_snoc : ∀ (l : List (Nat × Int)) (h : Nat × Int), grow (l ++ [h]) = grow l ++ [.int .i64 h.1, .int .i64 h.2]
  | [], h => rfl
  | x :: l, h => by rw [List.cons_append, grow, grow_snoc l h, grow]; rfl
theorem grow_at : ∀ (l : List (Nat × Int)) (j : Nat) (h : j < l.length), (grow l)[j * 2]? = some (.int .i64 l[j].1) ∧ (grow l)[j * 2 + 1]? = some (.int .i64 l[j].2)
  | [], j, h => by simp at h
  | y :: l, 0, _ => ⟨rfl, rfl⟩
  | y :: l, j + 1, h => by
    have := grow_at l j (by simpa using h)
    rw [grow, show (j + 1) * 2 = j * 2 + 2 by omega]
    exact this
/-- What TreePlays keeps: the tree, the row, the handles that are gone. -/
structure PS (w0 : World) (B C T G P : Nat) (w : World) (tf : Nat → Int) (L : List It) (gn : List (Nat × Int)) (vr vg : Value) : Prop where
  tr : Tre w T G P tf L
  row : w.ownsRow C 46 4 vr L.length (irow L)
  gon : w.ownsRow C 27 2 vg gn.length (grow gn)
  ap : ∀ a, vr.ownBlock = some a → vg.ownBlock ≠ some a
  bl : Below B w0 w
  cz : C ≤ w.heap.size
  bt : B ≤ T ∧ B ≤ G ∧ T < C ∧ G < C
  gok : ∀ h ∈ gn, h.2 ≤ tf h.1 ∧ ∀ y ∈ L, ¬ (y.n = h.1 ∧ y.tu = h.2)
section
variable {w0 w w' : World} {B C T G P : Nat} {tf tf' : Nat → Int} {L L' : List It} {gn : List (Nat × Int)} {vr vg : Value}
theorem PS.below (h : PS w0 B C T G P w tf L gn vr vg) (hb : Below w.heap.size w w') : PS w0 B C T G P w' tf L gn vr vg :=
  ⟨h.tr.below hb, row_keep h.row (fun g _ hl => hb.block g hl), row_keep h.gon (fun g _ hl => hb.block g hl), h.ap, h.bl.trans (hb.mono (by have := h.bt; have := h.cz; omega)), Nat.le_trans h.cz hb.size, h.bt, h.gok⟩
/-- The tree has changed. -/
theorem PS.touch (h : PS w0 B C T G P w tf L gn vr vg) (tt : Touch T G w w') : w'.ownsRow C 46 4 vr L.length (irow L) ∧ w'.ownsRow C 27 2 vg gn.length (grow gn) ∧ Below B w0 w' ∧ C ≤ w'.heap.size := by
  obtain ⟨b1, b2, b3, b4⟩ := h.bt
  exact ⟨row_keep h.row (fun g hc hl => tt.block g hl (by omega) (by omega)), row_keep h.gon (fun g hc hl => tt.block g hl (by omega) (by omega)), Touch.low h.bl tt b1 b2 (by have := h.cz; omega), Nat.le_trans h.cz tt.size⟩
theorem PS.lts (h : PS w0 B C T G P w tf L gn vr vg) : B ≤ w.heap.size := by have := h.bt; have := h.cz; omega
end
theorem row_val {w : World} {C e size n : Nat} {v : Value} {xs : List Value} (h : w.ownsRow C e size v n xs) : ∃ a cap, v = .slice a n cap := by
  rcases h.2 with ⟨rfl, rfl⟩ | ⟨g, cap, cur, rfl, _⟩
  · exact ⟨none, 0, rfl⟩
  · exact ⟨_, cap, rfl⟩
theorem idx_facts (I : Int) (N : Nat) (hz : N ≠ 0) (hN : N ≤ 150) : ∃ (U : Int) (k : Nat), IntKind.u64.wrap I = U ∧ IntKind.u64.wrap (N : Int) = (N : Int) ∧ U.tmod (N : Int) = (k : Int) ∧ k < N ∧ wrap64 (k : Int) = (k : Int) := by
  have hU0 : 0 ≤ IntKind.u64.wrap I := by rw [IntKind.wrap_u64]; exact Int.emod_nonneg _ (by decide)
  generalize IntKind.u64.wrap I = U at *
  have hn : (0 : Int) < (N : Int) := by omega
  have h1 := Int.emod_nonneg U (show (N : Int) ≠ 0 by omega)
  have h2 := Int.emod_lt_of_pos U hn
  obtain ⟨k, hk⟩ := Int.eq_ofNat_of_zero_le h1
  rw [hk] at h2
  refine ⟨U, k, rfl, ?_, by rw [Int.tmod_eq_emod_of_nonneg hU0, hk], by omega, ?_⟩
  · rw [IntKind.wrap_u64]
    exact Int.emod_eq_of_lt (by omega) (by omega)
  · have : k < 150 := by omega
    unfold wrap64
    omega
theorem split_item (L : List It) (k : Nat) (hk : k < L.length) : ∃ (A Bq : List It) (y : It), L = A ++ y :: Bq ∧ A.length = k ∧ (irow L)[k * 4 + 2]? = some (.int .i64 y.n) ∧ (irow L)[k * 4 + 3]? = some (.int .i64 y.tu) := by
  obtain ⟨_, _, i3, i4⟩ := irow_at L k hk
  exact ⟨L.take k, L.drop (k + 1), L[k], by rw [← List.drop_eq_getElem_cons hk, List.take_append_drop], by rw [List.length_take]; omega, i3, i4⟩
theorem row_some {w : World} {C e size n cap : Nat} {a : Option Addr} {xs : List Value} (h : w.ownsRow C e size (.slice a n cap) n xs) (hn : n ≠ 0) : ∃ g, a = some ⟨g, 0, none⟩ ∧ n ≤ cap ∧ cap ≤ 9223372036854775807 := by
  rcases h.2 with ⟨h1, h0⟩ | ⟨g, cap', cur, h1, _, _, h2, h3, _⟩
  · exact absurd h0 hn
  · cases h1
    refine ⟨g, rfl, h2, ?_⟩
    unfold maxLen at h3
    omega
theorem fidx_in (L : List It) (pl tn : Int) (h : ∃ y ∈ L, (y.n : Int) = pl ∧ y.tu = tn) : ∃ j : Nat, fidx L pl tn = (j : Int) := by
  unfold fidx
  cases hf : L.findIdx? (fun y => decide ((y.n : Int) = pl ∧ y.tu = tn)) with
  | some j => exact ⟨j, rfl⟩
  | none =>
    obtain ⟨y, hy, hp⟩ := h
    have := List.findIdx?_eq_none_iff.1 hf y hy
    rw [decide_eq_true hp] at this
    cases this
theorem fnd_drop (l : List It) (p : It → Bool) (j : Nat) (z : It) (hz : l[j]? = some z) : (l.drop j).find? p = if p z = true then some z else (l.drop (j + 1)).find? p := by
  obtain ⟨hj, rfl⟩ := List.getElem?_eq_some_iff.1 hz
  rw [List.drop_eq_getElem_cons hj, List.find?_cons]
  cases p l[j] <;> rfl
theorem hnInfo : (Try.prog.info? 27).map (fun i => (i.zero, i.size, i.bytes)) = some (some (.agg #[.int .i64 0, .int .i64 0]), 2, 16) := by kernel_rfl
end Go.Proofs.Ytpkadbjgkoijiaa
