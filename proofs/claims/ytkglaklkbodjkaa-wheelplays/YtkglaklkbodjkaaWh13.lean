import Derived.Test.YtkglaklkbodjkaaWh12
import Derived.RegionTactic
import Derived.BigRegion
import Derived.Laws.Cover3
namespace Go.Proofs.Ytkglaklkbodjkaa
open Go.RowKit Wh
set_option linter.unusedVariables false

theorem mapEqNil (m : Nat) (w : World) : (binOp .eql 48 (.map (some m)) (.map none)).run Try.prog w = .ok (.bool false) w := by
  simp only [binOp]
  simp [run_equal_map_nil w 48 3 3 (some m) Try.underlying48]
section
variable {B H Mb now n : Nat} {sv : Nat → Value} {sl : Nat → List Int} {L : List Wh.Item} {f : Int → Option Int} {sz : Nat}
theorem Whl.upd {w : World} (h : Whl w B H Mb now n f sz sv sl) (hn : n < 1000000) (k v : Int) (hk : isI k) (hv : isI v) (hnone : f k = none) : ∃ w', (Instr.mapUpdate 48 (.map (some Mb)) (.int .i64 k) (.int .i64 v)).run Try.prog w = .ok () w' ∧
    Whl w' B H Mb now (n + 1) (fun x => if x = k then some v else f x) (sz + 1) sv sl ∧ Fr w w' (Foot H Mb sv) (Foot H Mb sv) := by
  obtain ⟨w', h1, h2, h3⟩ := h.mp.upd hn k v hk hv
  rw [hnone] at h2
  refine ⟨w', h1, ⟨?_, h2, fun j hj => ?_, h.ap, h.lo⟩, ⟨h3.os, h3.tape, h3.output, h3.size, fun g hg hF => h3.block g hg (fun e => hF (.inr (.inl (by cases e; rfl)))), fun g hg => .inl hg⟩⟩
  · unfold Blk
    rw [h3.block H h.blk.lt (fun e => h.lo.2.2 (by cases e; rfl))]; exact h.blk
  · refine World.ownsRow.kept (h.rows j hj) h3 (.inr (h.Mb_not j hj).symm)
theorem mapOf_snoc {id : Int} {t : Nat} (h : id ∉ L.map (·.1)) : (fun x => if x = id then some (t : Int) else mapOf L x) = mapOf (L ++ [(id, t)]) := by
  funext x
  unfold mapOf
  rw [List.find?_append]
  by_cases e : x = id
  · subst e
    rw [if_pos rfl, List.find?_eq_none.2 (by
      intro y hy
      simp only [decide_eq_true_eq]
      exact fun e => h (List.mem_map.2 ⟨y, hy, e⟩))]
    simp
  · rw [if_neg e]
    cases hf : L.find? (fun y => decide (y.1 = x)) with
    | some y => rfl
    | none =>
      have : ¬ id = x := fun q => e q.symm
      simp [this]
theorem rw_put (hr : Rw now L) {id : Int} (hid : isI id) (hnew : id ∉ L.map (·.1)) (hlen : L.length < 1024) {t : Nat} (h1 : 1 ≤ t) (h2 : t ≤ 65535) : Rw now (L ++ [(id, now + t)]) := by
  refine ⟨?_, ?_, ?_, by simp; omega, hr.now⟩
  · intro x hx
    rcases List.mem_append.1 hx with hx | hx
    · exact hr.due x hx
    · simp only [List.mem_cons, List.not_mem_nil, or_false] at hx
      subst hx
      exact ⟨by show now < now + t; omega, by show now + t ≤ now + 65535; omega⟩
  · unfold Fresh
    rw [List.map_append, List.nodup_append]
    refine ⟨hr.fresh, by simp, ?_⟩
    intro a ha b hb e
    simp only [List.map_cons, List.map_nil, List.mem_cons, List.not_mem_nil, or_false] at hb
    subst hb; subst e
    exact hnew ha
  · intro x hx
    rcases List.mem_append.1 hx with hx | hx
    · exact hr.isI x hx
    · simp only [List.mem_cons, List.not_mem_nil, or_false] at hx
      subst hx
      exact hid
theorem put_nil (id t : Int) (w : World) : Calls Try.prog 13 #[.pointer none, .int .i64 id, .int .i64 t] w fun e w' => e = .returned (.int .i64 1) ∧ w' = w := by
  go_enter Try.func13, Try.ntmps13
  go_wp2
  go_ret
  exact ⟨rfl, rfl⟩
theorem put_range (H : Nat) (id t : Int) (w : World) (h : t < 1 ∨ 65535 < t) : Calls Try.prog 13 #[.pointer (some ⟨H, 0, none⟩), .int .i64 id, .int .i64 t] w fun e w' => e = .returned (.int .i64 6) ∧ w' = w := by
  by_cases h1 : t < 1
  · clear h
    go_enter Try.func13, Try.ntmps13
    go_wp2
    go_ret
    exact ⟨rfl, rfl⟩
  · have h2 : 65535 < t := by omega
    clear h
    go_enter Try.func13, Try.ntmps13
    go_wp2
    go_ret
    exact ⟨rfl, rfl⟩
theorem put_busy (w : World) (h : Whl w B H Mb now n f sz sv sl) (id : Int) (hid : isI id) (d : Int) (hd : f id = some d) (t : Nat) (h1 : 1 ≤ t) (h2 : t ≤ 65535) : Calls Try.prog 13 #[.pointer (some ⟨H, 0, none⟩), .int .i64 id, .int .i64 (t : Int)] w fun e w' => e = .returned (.int .i64 9) ∧ w' = w := by
  have c1 := h.c1
  have hl := h.mp.look_ok id hid
  rw [hd] at hl
  simp only [Option.getD_some, Option.isSome_some] at hl
  clear h hd
  go_enter Try.func13, Try.ntmps13
  go_wp2
  go_ret
  exact ⟨rfl, rfl⟩
theorem put_full (w : World) (h : Whl w B H Mb now n f 1024 sv sl) (id : Int) (hid : isI id) (hd : f id = none) (t : Nat) (h1 : 1 ≤ t) (h2 : t ≤ 65535) : Calls Try.prog 13 #[.pointer (some ⟨H, 0, none⟩), .int .i64 id, .int .i64 (t : Int)] w fun e w' => e = .returned (.int .i64 3) ∧ w' = w := by
  have c1 := h.c1
  have hl := h.mp.look_ok id hid
  have hln := h.mp.len
  rw [hd] at hl
  simp only [Option.getD_none, Option.isSome_none] at hl
  clear h hd
  go_enter Try.func13, Try.ntmps13
  go_wp2
  go_ret
  exact ⟨rfl, rfl⟩
set_option maxRecDepth 100000 in
set_option maxHeartbeats 1000000 in
theorem put_ok (w : World) (h : Has1 w B H Mb now n L sv) (hB : B ≤ w.heap.size) (hr : Rw now L) (hnow : now ≤ 100000000000) (hn : n < 1000000) (id : Int) (hid : isI id) (hnew : id ∉ L.map (·.1)) (hlen : L.length < 1024) (t : Nat) (h1 : 1 ≤ t) (h2 : t ≤ 65535) :
    Calls Try.prog 13 #[.pointer (some ⟨H, 0, none⟩), .int .i64 id, .int .i64 (t : Int)] w fun e w' => e = .returned (.int .i64 0) ∧ ∃ sv', Has1 w' B H Mb now (n + 1) (L ++ [(id, now + t)]) sv' ∧ Fr w w' (Foot H Mb sv) (Foot H Mb sv') := by
  obtain ⟨T, hNT⟩ : ∃ T, now + t = T := ⟨_, rfl⟩
  have hrp := rw_put hr hid hnew hlen h1 h2
  have HS := hide (fun sl hs => put_slots now L id T (two sl) hs)
  rw [hNT]
  obtain ⟨sl, hw, hs⟩ := h
  have c0 := hw.c0
  have c1 := hw.c1
  have hl := hw.mp.look_ok id hid
  rw [mapOf_none hnew] at hl
  simp only [Option.getD_none, Option.isSome_none] at hl
  have hln := hw.mp.len
  have hd : Below w.heap.size w w.drew := (Below.refl _ _).drew
  obtain ⟨w1, e1, k1, f1⟩ := (hw.below hd).upd hn id (T : Int) hid (isI_of (by omega) (by omega)) (mapOf_none hnew)
  have HK := hide (And.intro k1 (And.intro ((Fr.of_below _ hd).trans f1) (And.intro hs (And.intro hr hB))))
  have hln2 : ((L.length : Nat) : Int) < 1024 := by omega
  have hlf : ((L.length : Int) == 1024) = false := by rw [beq_eq_false_iff_ne]; omega
  have et : (now : Int) + (t : Int) = (T : Int) := by omega
  have ew : IntKind.i64.wrap (T : Int) = (T : Int) := by rw [IntKind.wrap_i64]; omega
  have hT : T < 1099511627776 := by omega
  have hq := mapEqNil Mb w
  clear hw hs k1 f1 hd hr hNT hrp
  go_enter Try.func13, Try.ntmps13
  go_wp2
  go_region
  obtain ⟨k1, f1, hs, hr, hB2⟩ := unhide HK
  have d1 := k1.c1
  have hB3 : B ≤ w1.heap.size := Nat.le_trans hB2 f1.size
  have l1 := k1.mp.look id hid
  rw [if_pos rfl, Option.getD_some] at l1
  have CL := hide (level_any w1 k1 T)
  have hdg := dig_lt T (lev now T)
  have hlv := lev_le now T
  have CY := hide (fun m => lay_at (w1.drewN m) (k1.below (below_drewN w1 m)) id hid T (if_pos rfl) hT (lev now T) (dig T (lev now T)) (by omega) rfl hdg hB3 (by
    have := slot_len hs (16 * lev now T + dig T (lev now T)) (by omega)
    have := hr.len
    omega))
  obtain ⟨lv, hlv2⟩ : ∃ lv, lev now T = lv := ⟨_, rfl⟩
  rw [hlv2] at CL CY hlv hdg
  clear k1 f1 hs hr hB2 hB3 hl hln c0 c1 e1 hq
  go_wp2_with (first | (go_at_call 51; refine (unhide CL).mono ?_; rintro e w2 ⟨rfl, m, rfl⟩) | (go_at_call 50; refine (unhide CY _).mono ?_; rintro e w3 ⟨rfl, v, y1, y2⟩))
  go_ret
  obtain ⟨k1, f1, hs, hr, hB2⟩ := unhide HK
  refine ⟨rfl, _, ⟨at1 sl (16 * lv + dig T lv) (sl (16 * lv + dig T lv) ++ [id]), ?_, ?_⟩, f1.trans ((Fr.drewN _ _ _).trans y2)⟩
  · rw [← mapOf_snoc hnew, List.length_append]
    exact y1
  · refine Slots.congr' (unhide HS sl hs) fun j d hj hdd => ?_
    rw [hlv2]
    have hdg2 : dig T lv < 16 := hdg
    unfold two at1
    by_cases e : j = lv ∧ d = dig T lv
    · obtain ⟨rfl, rfl⟩ := e
      rw [if_pos rfl, if_pos ⟨rfl, rfl⟩]
    · rw [if_neg e, if_neg (by omega)]
end
end Go.Proofs.Ytkglaklkbodjkaa
