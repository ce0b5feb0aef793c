import Derived.Test.YtkglaklkbodjkaaWh4
namespace Go.Proofs.Ytkglaklkbodjkaa
open Go.RowKit Wh

theorem app_lies {ops : Array Oper} {rest : List Oper} {o : Oper} {a : Act} {Q : Exit → Act → World → Prop} {w0 : World} (hgd : o.guard = none) (s x : Operand)
    (ho : o.op = .call { callee := .builtin .append, args := #[s, x], argTypes := #[35, 35] }) (B : Nat) (v : Value) (l : List Int) (y : Int) (hs : a.eval s = v) (hrow : Ir w0 B v l)
    (g : Nat) (hg : w0.heap.size = g) (hx : a.eval x = .slice (some ⟨g, 0, none⟩) 1 1) (hB : B ≤ g) (hl : l.length ≤ 1000000)
    (h : ∀ g' cap w', Ir w' B (.slice (some ⟨g', 0, none⟩) (l.length + 1) cap) (l ++ [y]) → w0.grownBy w' v.ownBlock → (v.ownBlock = some g' ∨ w0.heap.size ≤ g') → wpList Try.prog ops Q rest (a.put o.dst (.slice (some ⟨g', 0, none⟩) (l.length + 1) cap)) w') :
    wpList Try.prog ops Q (o :: rest) a (w0.alloc (.cells #[.int .i64 y] 3)) := by
  obtain ⟨i0, hi0, hz0, hz1, hz2⟩ := iparts iInfo
  refine wpList_append_lies _ hgd s x 35 ho B 3 i0 (.int .i64 0) 1 8 Try.underlying35 hi0 hz0 hz1 hz2 rfl (by decide) v l.length (l.map (Value.int .i64)) hs (World.ownsRow.alloc hrow _) ⟨g, 0, none⟩ 1 1 [.int .i64 y] hx rfl ?_ ?_ (by decide) (by unfold maxLen; omega) (by omega) (by simp; omega) (g + 1) (by simp [hg]) ?_
  · intro j u hu
    rw [iadd0, (Blk.new_at w0 3 #[.int .i64 y] hg.symm).cell]
    simpa using hu
  · intro u hu
    simp only [List.mem_cons, List.not_mem_nil, or_false] at hu
    subst hu; rfl
  · intro g' cap w' h1 h2 h3 _
    refine h g' cap w' ?_ ((World.grownBy_alloc w0 _ _).trans h2) (h3.imp id (fun e => by omega))
    unfold Ir
    rw [List.length_append, List.map_append]
    exact h1
section
variable {B H Mb now n : Nat} {f : Int → Option Int} {sz : Nat} {sv : Nat → Value} {sl : Nat → List Int}
set_option maxRecDepth 100000 in
set_option maxHeartbeats 1000000 in
theorem lay_at (w : World) (h : Whl w B H Mb now n f sz sv sl) (id : Int) (hid : isI id) (t : Nat) (ht : f id = some (t : Int)) (ht2 : t < 1099511627776) (lv D : Nat) (hlv : lv < 4) (hD : dig t lv = D) (hD2 : D < 16) (hB : B ≤ w.heap.size) (hll : (sl (16 * lv + D)).length ≤ 100000) :
    Calls Try.prog 50 #[.pointer (some ⟨H, 0, none⟩), .int .i64 id, .int .i64 (lv : Int)] w fun e w' => e = .returned (.tuple #[]) ∧ ∃ v, Whl w' B H Mb now n f sz (at1 sv (16 * lv + D) v) (at1 sl (16 * lv + D) (sl (16 * lv + D) ++ [id])) ∧ Fr w w' (Foot H Mb sv) (Foot H Mb (at1 sv (16 * lv + D) v)) := by
  have c1 := h.c1
  have cs := h.cs (16 * lv + D) (by omega)
  have fr := h.blk.free (2 + (16 * lv + D))
  have hlk := fun m => (h.mp.below (below_drewN w m) h.mp.lt).look id hid
  rw [ht] at hlk
  simp only [Option.getD_some] at hlk
  have hd := digit_any t lv ht2 hlv
  rw [hD] at hd
  obtain ⟨a, cap, hf, -⟩ := (h.rows (16 * lv + D) (by omega)).form
  have HR := hide (fun m => (h.below (below_drewN w m)).rows (16 * lv + D) (by omega))
  have HF := hide (fun m w1 v l => (h.below (below_drewN w m)).relay (w1 := w1) (16 * lv + D) (by omega) (v := v) (l := l))
  have HN := hide (fun m => Fr.drewN w (Foot H Mb sv) m)
  have HB := hide (fun m w1 (hg : (w.drewN m).grownBy w1 (sv (16 * lv + D)).ownBlock) => show w1.cell? ⟨H, 2 + (16 * lv + D), none⟩ = some (sv (16 * lv + D)) ∧ w1.frozen? ⟨H, 2 + (16 * lv + D), none⟩ = false from by
    have hb : Blk w1 H 77 (wc (now : Int) Mb sv) := by
      have h2 := h.below (below_drewN w m)
      unfold Blk
      rw [hg.block H h2.blk.lt (h2.H_not (16 * lv + D) (by omega))]; exact h2.blk
    exact ⟨by rw [hb.cell]; exact wc_at _ _ _ _ (by omega), hb.free _⟩)
  obtain ⟨g, hg⟩ : ∃ g, w.heap.size = g := ⟨_, rfl⟩
  clear h hD ht
  generalize hV : sv (16 * lv + D) = V at *
  generalize hL : sl (16 * lv + D) = L at *
  have HL := hide hll
  clear hll hL hV
  subst hf
  rcases (show lv = 0 ∨ lv = 1 ∨ lv = 2 ∨ lv = 3 by omega) with rfl | rfl | rfl | rfl
  · have e : 2 + (16 * 0 + D) = 2 + D := by omega
    rw [e] at cs fr HF HB
    go_enter Try.func50, Try.ntmps50
    go_wp2
    go_quiet (first | (go_at_call 52; exact Calls.quiet_of_same (hd _)))
    go_wp2_with (at_builtin; refine app_lies rfl _ _ rfl B (.slice a L.length cap) L id rfl (unhide HR nq) g hg rfl (by omega) (by have := unhide HL; omega) ?_)
    intro g' cap' w' o1 o2 o3
    obtain ⟨q1, q2⟩ := unhide HB nq w' o2
    have HG := hide (unhide HF nq w' (.slice (some ⟨g', 0, none⟩) (L.length + 1) cap') (L ++ [id]) o2 o1 (fun k hk => by cases hk; exact o3.imp (fun e => e) (fun e => by show w.heap.size ≤ g'; rw [hg]; exact e)))
    clear o1 o2 o3 HF HB HR
    go_wp2
    refine bodyPost_end (results_none rfl _ _ _) rfl ?_
    exact ⟨rfl, _, (unhide HG).1, (unhide HN nq).trans (unhide HG).2⟩
  · have e : 2 + (16 * 1 + D) = 18 + D := by omega
    rw [e] at cs fr HF HB
    go_enter Try.func50, Try.ntmps50
    go_wp2
    go_quiet (first | (go_at_call 52; exact Calls.quiet_of_same (hd _)))
    go_wp2_with (at_builtin; refine app_lies rfl _ _ rfl B (.slice a L.length cap) L id rfl (unhide HR nq) g hg rfl (by omega) (by have := unhide HL; omega) ?_)
    intro g' cap' w' o1 o2 o3
    obtain ⟨q1, q2⟩ := unhide HB nq w' o2
    have HG := hide (unhide HF nq w' (.slice (some ⟨g', 0, none⟩) (L.length + 1) cap') (L ++ [id]) o2 o1 (fun k hk => by cases hk; exact o3.imp (fun e => e) (fun e => by show w.heap.size ≤ g'; rw [hg]; exact e)))
    clear o1 o2 o3 HF HB HR
    go_wp2
    refine bodyPost_end (results_none rfl _ _ _) rfl ?_
    exact ⟨rfl, _, (unhide HG).1, (unhide HN nq).trans (unhide HG).2⟩
  · have e : 2 + (16 * 2 + D) = 34 + D := by omega
    rw [e] at cs fr HF HB
    go_enter Try.func50, Try.ntmps50
    go_wp2
    go_quiet (first | (go_at_call 52; exact Calls.quiet_of_same (hd _)))
    go_wp2_with (at_builtin; refine app_lies rfl _ _ rfl B (.slice a L.length cap) L id rfl (unhide HR nq) g hg rfl (by omega) (by have := unhide HL; omega) ?_)
    intro g' cap' w' o1 o2 o3
    obtain ⟨q1, q2⟩ := unhide HB nq w' o2
    have HG := hide (unhide HF nq w' (.slice (some ⟨g', 0, none⟩) (L.length + 1) cap') (L ++ [id]) o2 o1 (fun k hk => by cases hk; exact o3.imp (fun e => e) (fun e => by show w.heap.size ≤ g'; rw [hg]; exact e)))
    clear o1 o2 o3 HF HB HR
    go_wp2
    refine bodyPost_end (results_none rfl _ _ _) rfl ?_
    exact ⟨rfl, _, (unhide HG).1, (unhide HN nq).trans (unhide HG).2⟩
  · have e : 2 + (16 * 3 + D) = 50 + D := by omega
    rw [e] at cs fr HF HB
    go_enter Try.func50, Try.ntmps50
    go_wp2
    go_quiet (first | (go_at_call 52; exact Calls.quiet_of_same (hd _)))
    go_wp2_with (at_builtin; refine app_lies rfl _ _ rfl B (.slice a L.length cap) L id rfl (unhide HR nq) g hg rfl (by omega) (by have := unhide HL; omega) ?_)
    intro g' cap' w' o1 o2 o3
    obtain ⟨q1, q2⟩ := unhide HB nq w' o2
    have HG := hide (unhide HF nq w' (.slice (some ⟨g', 0, none⟩) (L.length + 1) cap') (L ++ [id]) o2 o1 (fun k hk => by cases hk; exact o3.imp (fun e => e) (fun e => by show w.heap.size ≤ g'; rw [hg]; exact e)))
    clear o1 o2 o3 HF HB HR
    go_wp2
    refine bodyPost_end (results_none rfl _ _ _) rfl ?_
    exact ⟨rfl, _, (unhide HG).1, (unhide HN nq).trans (unhide HG).2⟩
end
end Go.Proofs.Ytkglaklkbodjkaa
