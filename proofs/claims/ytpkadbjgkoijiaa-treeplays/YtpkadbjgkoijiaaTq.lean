import Derived.Test.YtpkadbjgkoijiaaTl2
import Derived.Test.YtpkadbjgkoijiaaAp
namespace Go.Proofs.Ytpkadbjgkoijiaa
open Go.RowKit

theorem box2_below (w : World) (a b : Obj) : Below w.heap.size w ((w.alloc a).alloc b) := (one_below w a).trans ((one_below _ b).mono (one_below w a).size)
set_option maxHeartbeats 1000000 in
theorem laws_ahead (a b c d : Int) (w : World) :
    Calls Try.prog 23 #[.agg #[.int .i64 a, .int .i64 b], .agg #[.int .i64 c, .int .i64 d]] w fun e w' => e = .returned (.bool (klt a b c d)) ∧ Below w.heap.size w w' := by
  have HB := hide (box2_below w (.cells #[.int .i64 a, .int .i64 b] 38) (.cells #[.int .i64 c, .int .i64 d] 38))
  by_cases h1 : a < c
  · rw [show klt a b c d = true by unfold klt; rw [if_neg (by omega), decide_eq_true h1]]
    go_enter Try.func23, Try.ntmps23
    go_wp2
    go_ret
    exact ⟨rfl, unhide HB⟩
  · by_cases h2 : a = c
    · subst h2
      by_cases h3 : b < d
      · rw [show klt a b a d = true by unfold klt; rw [if_pos rfl, decide_eq_true h3]]
        go_enter Try.func23, Try.ntmps23
        go_wp2
        go_ret
        exact ⟨rfl, unhide HB⟩
      · rw [show klt a b a d = false by unfold klt; rw [if_pos rfl, decide_eq_false h3]]
        go_enter Try.func23, Try.ntmps23
        go_wp2
        go_ret
        exact ⟨rfl, unhide HB⟩
    · rw [show klt a b c d = false by unfold klt; rw [if_neg h2, decide_eq_false h1]]
      have h4 : (a == c) = false := by rw [beq_eq_false_iff_ne]; exact h2
      go_enter Try.func23, Try.ntmps23
      go_wp2
      go_ret
      exact ⟨rfl, unhide HB⟩

theorem itemInfo : (Try.prog.info? 46).map (fun i => (i.zero, i.size, i.bytes)) = some (some (.agg #[.int .i64 0, .int .i64 0, .int .i64 0, .int .i64 0]), 4, 32) := by kernel_rfl
theorem irow_one (L : List It) : ∀ u ∈ irow L, u.oneCell' = true := by
  induction L with
  | nil => intro u hu; cases hu
  | cons y l ih =>
    intro u hu
    rw [irow] at hu
    simp only [List.mem_cons] at hu
    rcases hu with rfl | rfl | rfl | rfl | hu
    · rfl
    · rfl
    · rfl
    · rfl
    · exact ih u hu
theorem irow_drop (p q : List It) (j : Nat) : (irow (p ++ q))[p.length * 4 + j]? = (irow q)[j]? := by
  rw [irow_append, List.getElem?_append_right (by rw [irow_len]; omega), irow_len]
  congr 1
  omega
/-- The parts of a row of items, as what is appended. -/
theorem news_pre {w : World} {C g cap : Nat} {pre post : List It} (h : w.ownsRow C 46 4 (.slice (some ⟨g, 0, none⟩) (pre ++ post).length cap) (pre ++ post).length (irow (pre ++ post))) (c : Nat) :
    News w (.slice (some ⟨g, 0, none⟩) pre.length c) pre.length 4 (irow pre) := by
  refine ⟨irow_len pre, irow_one pre, .inr ⟨_, c, rfl, fun j u hu => ?_⟩⟩
  refine h.cells (g := g) rfl j u ?_
  rw [irow_append, List.getElem?_append_left]
  · exact hu
  · exact (List.getElem?_eq_some_iff.1 hu).1
theorem news_post {w : World} {C g cap : Nat} {pre post : List It} (h : w.ownsRow C 46 4 (.slice (some ⟨g, 0, none⟩) (pre ++ post).length cap) (pre ++ post).length (irow (pre ++ post))) (c : Nat) :
    News w (.slice (some ⟨g, pre.length * 4, none⟩) post.length c) post.length 4 (irow post) := by
  refine ⟨irow_len post, irow_one post, .inr ⟨_, c, rfl, fun j u hu => ?_⟩⟩
  have := h.cells (g := g) rfl (pre.length * 4 + j) u (by rw [irow_drop]; exact hu)
  rw [add0] at this
  rw [show (⟨g, pre.length * 4, none⟩ : Addr).add j = ⟨g, pre.length * 4 + j, none⟩ by
    unfold Addr.add
    split
    · rename_i e; rw [e]; rfl
    · rfl]
  exact this
theorem news_from {w : World} {C g cap : Nat} {pre post : List It} (h : w.ownsRow C 46 4 (.slice (some ⟨g, 0, none⟩) (pre ++ post).length cap) (pre ++ post).length (irow (pre ++ post))) {N : Nat} (hN : (pre ++ post).length = N) (hc : N ≤ cap) (c : Nat) :
    News w (.slice (if cap = pre.length then some ⟨g, 0, none⟩ else some ⟨g, pre.length * 4, none⟩) (N - pre.length) c) post.length 4 (irow post) := by
  have e : N - pre.length = post.length := by rw [← hN, List.length_append]; omega
  rw [e]
  by_cases hcp : cap = pre.length
  · have hp : post = [] := by
      apply List.length_eq_zero_iff.1
      rw [List.length_append] at hN
      omega
    subst hp
    rw [if_pos hcp]
    exact ⟨rfl, irow_one [], .inr ⟨_, c, rfl, fun j u hu => by simp [irow] at hu⟩⟩
  · rw [if_neg hcp]
    exact news_post h c
theorem news_box {w : World} {b : Nat} {y : It} (h : Blk w b 46 #[.int .i64 y.a, .int .i64 y.b, .int .i64 y.n, .int .i64 y.tu]) : News w (.slice (some ⟨b, 0, none⟩) 1 1) 1 4 (irow [y]) := by
  refine ⟨rfl, irow_one [y], .inr ⟨_, 1, rfl, fun j u hu => ?_⟩⟩
  rw [add0, h.cell]
  have : irow [y] = [.int .i64 y.a, .int .i64 y.b, .int .i64 y.n, .int .i64 y.tu] := rfl
  rw [this] at hu
  rw [← hu]
  simp
theorem own_empty {w : World} {D b : Nat} (hD : D ≤ b) (hb : w.heap.size = b) : (w.alloc (.cells #[] 46)).ownsRow D 46 4 (.slice (some ⟨b, 0, none⟩) 0 0) 0 [] := by
  subst hb
  exact World.ownsRow_lit w #[] 0 hD (by unfold maxLen; omega) rfl
/-- An append of items in a region that draws. -/
theorem step_own {ops : Array Oper} {o : Oper} {a : Act} {w : World} {K : Act → World → Prop} {Q : Exit → Act → World → Prop} {E : Prop}
    (hg : o.guard = none) (s x : Operand) (hop : o.op = .call { callee := .builtin .append, args := #[s, x], argTypes := #[35, 35] }) {D : Nat} {w5 : World} (hD : w5.heap.size = D)
    (v : Value) (n : Nat) (xs : List Value) (hs : a.eval s = v) (hown : w.ownsRow D 46 4 v n xs) (m : Nat) (news : List Value) (hn : News w (a.eval x) m 4 news) (hl : n + m ≤ 20000) (S : Below D w5 w)
    (hK : ∀ v' w', w'.ownsRow D 46 4 v' (n + m) (xs ++ news) → Below D w5 w' → (∀ b t cs, Blk w b t cs → some b ≠ v.ownBlock → Blk w' b t cs) → K (a.put o.dst v') w') :
    if Region.wanted o (yielded ops a.tmps) = true then Oper.wp Try.prog o a w K Q else E := by
  obtain ⟨i0, hi0, hz0, hz1, hz2⟩ := info_parts itemInfo
  have hsz : D ≤ w.heap.size := by have := S.size; omega
  exact step_app hg s x 35 hop D 46 i0 (.agg #[.int .i64 0, .int .i64 0, .int .i64 0, .int .i64 0]) 4 32 Try.underlying35 hi0 hz0 hz1 hz2 rfl (by decide) v n xs hs hown m news hn (by omega) (by decide) hsz
    fun v' w' q1 q2 => hK v' w' q1 (S.grown q2 hsz fun j hj => (hown.lt j hj).1) fun b t cs h1 h2 => h1.grown q2 h2
end Go.Proofs.Ytpkadbjgkoijiaa
