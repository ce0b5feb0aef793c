import Derived.Test.YtkglaklkbodjkaaWit2
namespace Go.Proofs.Ytkglaklkbodjkaa
open Go.RowKit Wh
set_option linter.unusedVariables false

theorem wnews_pre {w : World} {C g cap : Nat} {pre post : List Wh.Item} (h : Rr w C (.slice (some ⟨g, 0, none⟩) (pre ++ post).length cap) (pre ++ post)) (c : Nat) :
    News w (.slice (some ⟨g, 0, none⟩) pre.length c) pre.length 2 (irw pre) := by
  refine ⟨irw_len pre, irw_one pre, .inr ⟨_, c, rfl, fun j u hu => ?_⟩⟩
  refine World.ownsRow.cells h (g := g) rfl j u ?_
  rw [irw_app, List.getElem?_append_left]
  · exact hu
  · exact (List.getElem?_eq_some_iff.1 hu).1
theorem wnews_post {w : World} {C g cap : Nat} {pre post : List Wh.Item} (h : Rr w C (.slice (some ⟨g, 0, none⟩) (pre ++ post).length cap) (pre ++ post)) (c : Nat) :
    News w (.slice (some ⟨g, pre.length * 2, none⟩) post.length c) post.length 2 (irw post) := by
  refine ⟨irw_len post, irw_one post, .inr ⟨_, c, rfl, fun j u hu => ?_⟩⟩
  have := World.ownsRow.cells h (g := g) rfl (pre.length * 2 + j) u (by rw [irw_drop]; exact hu)
  rw [iadd0] at this
  rw [show (⟨g, pre.length * 2, none⟩ : Addr).add j = ⟨g, pre.length * 2 + j, none⟩ by
    unfold Addr.add
    split
    · rename_i e; rw [e]; rfl
    · rfl]
  exact this
theorem wnews_from {w : World} {C g cap : Nat} {pre post : List Wh.Item} (h : Rr w C (.slice (some ⟨g, 0, none⟩) (pre ++ post).length cap) (pre ++ post)) {N : Nat} (hN : (pre ++ post).length = N) (hc : N ≤ cap) (c : Nat) :
    News w (.slice (if cap = pre.length then some ⟨g, 0, none⟩ else some ⟨g, pre.length * 2, none⟩) (N - pre.length) c) post.length 2 (irw post) := by
  have e : N - pre.length = post.length := by rw [← hN, List.length_append]; omega
  rw [e]
  by_cases hcp : cap = pre.length
  · have hp : post = [] := by
      apply List.length_eq_zero_iff.1
      rw [List.length_append] at hN
      omega
    subst hp
    rw [if_pos hcp]
    exact ⟨rfl, irw_one [], .inr ⟨_, c, rfl, fun j u hu => by simp [irw] at hu⟩⟩
  · rw [if_neg hcp]
    exact wnews_post h c
theorem wnews_nil (w : World) : News w (.slice none 0 0) 0 2 (irw []) := ⟨rfl, irw_one [], .inl ⟨rfl, rfl⟩⟩
theorem wnews_box {w : World} {b : Nat} {y : Wh.Item} (h : Blk w b 32 #[.int .i64 y.1, .int .i64 (y.2 : Int)]) : News w (.slice (some ⟨b, 0, none⟩) 1 1) 1 2 (irw [y]) := by
  refine ⟨rfl, irw_one [y], .inr ⟨_, 1, rfl, fun j u hu => ?_⟩⟩
  rw [iadd0, h.cell]
  have : irw [y] = [.int .i64 y.1, .int .i64 (y.2 : Int)] := rfl
  rw [this] at hu
  rw [← hu]
  simp
theorem wown_empty {w : World} {D b : Nat} (hD : D ≤ b) (hb : w.heap.size = b) : (w.alloc (.cells #[] 32)).ownsRow D 32 2 (.slice (some ⟨b, 0, none⟩) 0 0) 0 [] := by
  subst hb
  exact World.ownsRow_lit w #[] 0 hD (by unfold maxLen; omega) rfl
theorem wblk_grown {w w' : World} {b : Nat} {t : TypeId} {cs : Array Value} {r : Option Nat} (h : Blk w b t cs) (hg : w.grownBy w' r) (hn : some b ≠ r) : Blk w' b t cs := by
  have hl := h.lt
  unfold Blk at *
  rw [hg.block b hl hn]; exact h
/-- An append of items in a region that draws. -/
theorem wstep_own {ops : Array Oper} {o : Oper} {a : Act} {w : World} {K : Act → World → Prop} {Q : Exit → Act → World → Prop} {E : Prop}
    (hg : o.guard = none) (s x : Operand) (hop : o.op = .call { callee := .builtin .append, args := #[s, x], argTypes := #[26, 26] }) {D : Nat} {w5 : World} (hD : w5.heap.size = D)
    (v : Value) (n : Nat) (xs : List Value) (hs : a.eval s = v) (hown : w.ownsRow D 32 2 v n xs) (m : Nat) (news : List Value) (hn : News w (a.eval x) m 2 news) (hl : n + m ≤ 20000) (S : Below D w5 w)
    (hK : ∀ v' w', w'.ownsRow D 32 2 v' (n + m) (xs ++ news) → Below D w5 w' → (∀ b t cs, Blk w b t cs → some b ≠ v.ownBlock → Blk w' b t cs) → K (a.put o.dst v') w') :
    if Region.wanted o (yielded ops a.tmps) = true then Oper.wp Try.prog o a w K Q else E := by
  obtain ⟨i0, hi0, hz0, hz1, hz2⟩ := iparts witInfo
  have hsz : D ≤ w.heap.size := by have := S.size; omega
  exact step_app hg s x 26 hop D 32 i0 (.agg #[.int .i64 0, .int .i64 0]) 2 16 Try.underlying26 hi0 hz0 hz1 hz2 rfl (by decide) v n xs hs hown m news hn (by omega) (by decide) hsz
    fun v' w' q1 q2 => hK v' w' q1 (S.grown q2 hsz fun j hj => (hown.lt j hj).1) fun b t cs h1 h2 => wblk_grown h1 q2 h2
/-- An append of one item where the order is kept. -/
theorem app_item {ops : Array Oper} {rest : List Oper} {o : Oper} {a : Act} {Q : Exit → Act → World → Prop} {w0 : World} (hgd : o.guard = none) (s x : Operand)
    (ho : o.op = .call { callee := .builtin .append, args := #[s, x], argTypes := #[26, 26] }) (B : Nat) (v : Value) (L : List Wh.Item) (y : Wh.Item) (hs : a.eval s = v) (hrow : Rr w0 B v L)
    (g : Nat) (hg : w0.heap.size = g) (hx : a.eval x = .slice (some ⟨g, 0, none⟩) 1 1) (hB : B ≤ g) (hl : L.length ≤ 1000000)
    (h : ∀ v' w', Rr w' B v' (L ++ [y]) → w0.grownBy w' v.ownBlock → (∀ q, v'.ownBlock = some q → v.ownBlock = some q ∨ w0.heap.size ≤ q) → wpList Try.prog ops Q rest (a.put o.dst v') w') :
    wpList Try.prog ops Q (o :: rest) a (w0.alloc (.cells #[.int .i64 y.1, .int .i64 (y.2 : Int)] 32)) := by
  obtain ⟨i0, hi0, hz0, hz1, hz2⟩ := iparts witInfo
  refine wpList_append_lies _ hgd s x 26 ho B 32 i0 (.agg #[.int .i64 0, .int .i64 0]) 2 16 Try.underlying26 hi0 hz0 hz1 hz2 rfl (by decide) v L.length (irw L) hs (World.ownsRow.alloc hrow _) ⟨g, 0, none⟩ 1 1 [.int .i64 y.1, .int .i64 (y.2 : Int)] hx rfl ?_ ?_ (by decide) (by unfold maxLen; omega) (by omega) (by simp; omega) (g + 1) (by simp [hg]) ?_
  · intro j u hu
    rw [iadd0, (Blk.new_at w0 32 #[.int .i64 y.1, .int .i64 (y.2 : Int)] hg.symm).cell]
    simpa using hu
  · intro u hu
    simp only [List.mem_cons, List.not_mem_nil, or_false] at hu
    rcases hu with rfl | rfl <;> rfl
  · intro g' cap w' h1 h2 h3 _
    refine h _ w' ?_ ((World.grownBy_alloc w0 _ _).trans h2) (fun q hq => by
      have e : g' = q := Option.some.inj hq
      subst e
      exact h3.imp id (fun e => by omega))
    unfold Rr
    rw [List.length_append, irw_app]
    exact h1
end Go.Proofs.Ytkglaklkbodjkaa
