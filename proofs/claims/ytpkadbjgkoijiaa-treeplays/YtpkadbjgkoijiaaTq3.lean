import Derived.Test.YtpkadbjgkoijiaaTq2
namespace Go.Proofs.Ytpkadbjgkoijiaa
open Go.RowKit

theorem news_nil (w : World) : News w (.slice none 0 0) 0 4 (irow []) := ⟨rfl, irow_one [], .inl ⟨rfl, rfl⟩⟩
set_option maxRecDepth 100000 in
set_option maxHeartbeats 4000000 in
theorem lput_nil (y : It) (w : World) :
    Calls Try.prog 12 #[.slice none 0 0, .agg #[.int .i64 y.a, .int .i64 y.b, .int .i64 y.n, .int .i64 y.tu]] w fun e w' => ∃ v', e = .returned v' ∧ w'.ownsRow w.heap.size 46 4 v' 1 (irow [y]) ∧ Below w.heap.size w w' := by
  obtain ⟨B, hB⟩ : ∃ B, w.heap.size = B := ⟨_, rfl⟩
  obtain ⟨W0, hW0⟩ : ∃ W0, W0 = w.alloc (.cells #[.int .i64 y.a, .int .i64 y.b, .int .i64 y.n, .int .i64 y.tu] 46) := ⟨_, rfl⟩
  have b0 : Below B w W0 := by rw [hW0, ← hB]; exact one_below _ _
  have k0 : Blk W0 B 46 #[.int .i64 y.a, .int .i64 y.b, .int .i64 y.n, .int .i64 y.tu] := by rw [hW0]; exact Blk.new_at _ _ _ hB.symm
  rw [hB]
  obtain ⟨yn, yt, ya, yb⟩ := y
  simp only at *
  have HW0 := hide hW0
  have H0 := hide (And.intro b0 k0)
  clear hW0 b0 k0
  go_enter Try.func12, Try.ntmps12
  go_wp2_with fail
  rw [← unhide HW0]
  refine wp_loop_rounds 1 ?_
  rw [rounds_succ]
  go_wp2_with fail
  go_quiet (fail)
  go_wp2_with fail
  have HT2 := hide (drew_below W0 nq)
  have kx := (unhide H0).2.below (unhide HT2) (unhide H0).2.lt
  have HT2 := hide (show Below B w (W0.drewN nq) from (unhide H0).1.trans ((unhide HT2).mono (hB ▸ (unhide H0).1.size)))
  generalize W0.drewN nq = w5 at *
  obtain ⟨D, hD⟩ : ∃ D, w5.heap.size = D := ⟨_, rfl⟩
  have c0 := hold (kx.cell 0)
  have c1 := hold (kx.cell 1)
  have c2 := hold (kx.cell 2)
  have c3 := hold (kx.cell 3)
  have e0 : ∀ o : Obj, (w5.alloc o).drew.cell? ⟨B, 0, none⟩ = some (.int .i64 ya) := fun o => (kx.alloc o).cell 0
  have e1 : ∀ o : Obj, (w5.alloc o).drew.cell? ⟨B, 1, none⟩ = some (.int .i64 yb) := fun o => (kx.alloc o).cell 1
  have e2 : ∀ o : Obj, (w5.alloc o).drew.cell? ⟨B, 2, none⟩ = some (.int .i64 (yn : Int)) := fun o => (kx.alloc o).cell 2
  have e3 : ∀ o : Obj, (w5.alloc o).drew.cell? ⟨B, 3, none⟩ = some (.int .i64 yt) := fun o => (kx.alloc o).cell 3
  have f0 : w5.drew.cell? ⟨B, 0, none⟩ = some (.int .i64 ya) := kx.cell 0
  have f1 : w5.drew.cell? ⟨B, 1, none⟩ = some (.int .i64 yb) := kx.cell 1
  have f2 : w5.drew.cell? ⟨B, 2, none⟩ = some (.int .i64 (yn : Int)) := kx.cell 2
  have f3 : w5.drew.cell? ⟨B, 3, none⟩ = some (.int .i64 yt) := kx.cell 3
  have BE : ∀ o : Obj, Below D w5 (w5.alloc o).drew := fun o => by rw [← hD]; exact (one_below w5 o).drew
  have BE2 : ∀ o p : Obj, Below D w5 ((w5.alloc o).alloc p).drew := fun o p => by rw [← hD]; exact (box2_below w5 o p).drew
  have HBE := hide (And.intro BE BE2)
  clear BE BE2
  go_region_law (first
    | (refine step_own rfl _ _ rfl hD _ 0 [] rfl (by first | exact own_empty (Nat.le_refl _) hD | exact World.ownsRow.alloc (own_empty (Nat.le_refl _) hD) _ | exact own_empty (Nat.le_succ _) (by simp [hD])) 0 (irow []) (news_nil _) (by omega) (by first | exact (unhide HBE).1 _ | exact (unhide HBE).2 _ _) ?_; intro v1 w1 o1 S1 K1; rw [Nat.zero_add, List.nil_append] at o1)
    | (refine step_own rfl _ _ rfl hD _ 0 (irow []) rfl (by first | exact o1 | exact World.ownsRow.alloc o1 _) 1 (irow [⟨yn, yt, ya, yb⟩]) (by first | exact news_box (y := ⟨yn, yt, ya, yb⟩) (Blk.new _ _ _) | exact news_box (y := ⟨yn, yt, ya, yb⟩) (K1 _ _ _ (Blk.new_at _ _ _ (show D + 1 = _ by simp [hD])) (fun e => Nat.ne_of_gt (Nat.lt_succ_self D) (Option.some.inj e))) | exact news_box (y := ⟨yn, yt, ya, yb⟩) (K1 _ _ _ (Blk.alloc (Blk.new_at _ _ _ hD.symm) _) (fun e => Nat.ne_of_lt (Nat.lt_succ_self D) (Option.some.inj e)))) (by omega) (by first | exact S1 | exact S1.alloc (by have := S1.size; omega) _) ?_; intro v2 w2 o2 S2 K2)
    | (refine step_own rfl _ _ rfl hD _ 1 (irow [] ++ irow [⟨yn, yt, ya, yb⟩]) rfl o2 0 (irow []) (news_nil _) (by omega) S2 ?_; intro v3 w3 o3 S3 K3))
  all_goals go_wp2_with fail
  all_goals
    go_ret
    refine ⟨v3, rfl, ?_, ?_⟩
    · have hb := (unhide HT2).size
      have o4 : w3.ownsRow D 46 4 v3 1 (irow [⟨yn, yt, ya, yb⟩]) := o3
      exact World.ownsRow.mono o4 (by omega)
    · exact (unhide HT2).trans (S3.mono (by have := (unhide HT2).size; omega))
theorem lput_any (C : Nat) (v : Value) (pre post : List It) (y : It) (w : World) (hr : w.ownsRow C 46 4 v (pre ++ post).length (irow (pre ++ post)))
    (hpre : ∀ z ∈ pre, klt y.a y.b z.a z.b = false) (hpost : ∀ z ∈ post, klt y.a y.b z.a z.b = true) (hl : (pre ++ post).length ≤ 5000) :
    Calls Try.prog 12 #[v, .agg #[.int .i64 y.a, .int .i64 y.b, .int .i64 y.n, .int .i64 y.tu]] w fun e w' => ∃ v', e = .returned v' ∧ w'.ownsRow w.heap.size 46 4 v' (pre ++ y :: post).length (irow (pre ++ y :: post)) ∧ Below w.heap.size w w' := by
  have hlen : (pre ++ y :: post).length = (pre ++ post).length + 1 := by simp; omega
  rw [hlen]
  rcases hr.2 with ⟨rfl, h0⟩ | ⟨g, cap, cur, rfl, _⟩
  · have hp : pre = [] ∧ post = [] := by simpa using h0
    obtain ⟨rfl, rfl⟩ := hp
    exact lput_nil y w
  · exact lput_some C g cap pre post y w hr hpre hpost hl
end Go.Proofs.Ytpkadbjgkoijiaa
