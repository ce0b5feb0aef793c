import Derived.Test.YtkglaklkbodjkaaWh5
namespace Go.Proofs.Ytkglaklkbodjkaa
open Go.RowKit Wh

section
variable {B H Mb now n : Nat} {f : Int → Option Int} {sz : Nat} {sv : Nat → Value} {sl : Nat → List Int}
theorem grownBy_same (w : World) (row : Option Nat) : w.grownBy w row := ⟨rfl, rfl, rfl, Nat.le_refl _, fun _ _ _ => rfl⟩
theorem take_any (w : World) (h : Whl w B H Mb now n f sz sv sl) (hnow : now < 1099511627776) (lv D : Nat) (hlv : lv < 4) (hD : dig now lv = D) (hD2 : D < 16) :
    Calls Try.prog 63 #[.pointer (some ⟨H, 0, none⟩), .int .i64 (lv : Int)] w fun e w' => e = .returned (sv (16 * lv + D)) ∧
      Whl w' B H Mb now n f sz (at1 sv (16 * lv + D) (.slice none 0 0)) (at1 sl (16 * lv + D) []) ∧ Fr w w' (Foot H Mb sv) (Foot H Mb (at1 sv (16 * lv + D) (.slice none 0 0))) ∧
      Ir w' B (sv (16 * lv + D)) (sl (16 * lv + D)) ∧ ∀ g, (sv (16 * lv + D)).ownBlock = some g → ¬ Foot H Mb (at1 sv (16 * lv + D) (.slice none 0 0)) g := by
  have hj : 16 * lv + D < 64 := by omega
  refine (take_at w h hnow lv D hlv hD hD2).mono ?_
  rintro e w' ⟨rfl, m, rfl⟩
  have h2 := h.below (below_drewN w m)
  obtain ⟨k1, k2⟩ := h2.relay (w1 := w.drewN m) _ hj (grownBy_same _ _) (Ir.nil _ B) (fun g hg => by cases hg)
  refine ⟨rfl, k1, (Fr.drewN w _ m).trans k2, ?_, ?_⟩
  · exact (h2.rows _ hj).keep fun g hg1 _ => Below.heap_setCell _ ⟨H, 2 + (16 * lv + D), none⟩ _ g (by have := h.lo.1; show g ≠ H; omega)
  · rintro g hg (rfl | rfl | ⟨i, hi, ho⟩)
    · exact h.H_not _ hj hg.symm
    · exact h.Mb_not _ hj hg.symm
    · by_cases e : i = 16 * lv + D
      · subst e
        rw [at1_same] at ho
        cases ho
      · rw [at1_other _ _ e] at ho
        exact h.ap i _ g hi hj e ho hg
theorem Whl.del {w : World} (h : Whl w B H Mb now n f sz sv sl) (k : Int) (hk : isI k) (ty : TypeId) : ∃ w', (Builtin.delete_ #[48, 3] ty #[.map (some Mb), .int .i64 k]).run Try.prog w = .ok (.tuple #[]) w' ∧
    Whl w' B H Mb now n (fun x => if x = k then none else f x) (if (f k).isSome = true then sz - 1 else sz) sv sl ∧ Fr w w' (Foot H Mb sv) (Foot H Mb sv) := by
  obtain ⟨w', h1, h2, h3⟩ := h.mp.del k hk ty
  refine ⟨w', h1, ⟨?_, h2, fun j hj => ?_, h.ap, h.lo⟩, ⟨h3.os, h3.tape, h3.output, h3.size, fun g hg hF => h3.block g hg (fun e => hF (.inr (.inl (by cases e; rfl)))), fun g hg => .inl hg⟩⟩
  · unfold Blk
    rw [h3.block H h.blk.lt (fun e => h.lo.2.2 (by cases e; rfl))]; exact h.blk
  · refine World.ownsRow.kept (h.rows j hj) h3 (.inr (h.Mb_not j hj).symm)
/-- What a map tells once some are gone. -/
def gone (f : Int → Option Int) (ids : List Int) : Int → Option Int := fun x => if x ∈ ids then none else f x
theorem gone_nil (f : Int → Option Int) : gone f [] = f := by funext x; simp [gone]
theorem gone_snoc (f : Int → Option Int) (ids : List Int) (k : Int) : (fun x => if x = k then none else gone f ids x) = gone f (ids ++ [k]) := by
  funext x
  unfold gone
  by_cases e : x = k
  · simp [e]
  · simp [e]
theorem Fr.row {w w' : World} {F F' : Nat → Prop} (h : Fr w w' F F') {v : Value} {l : List Int} (hr : Ir w B v l) (hn : ∀ g, v.ownBlock = some g → ¬ F g) : Ir w' B v l := by
  refine ⟨hr.1, ?_⟩
  rcases hr.2 with h2 | ⟨g, cap, cur, h1, h2, h3, h4⟩
  · exact .inl h2
  · refine .inr ⟨g, cap, cur, h1, h2, ?_, h4⟩
    have hl : g < w.heap.size := (hr.lt g (by rw [h1]; rfl)).2
    rw [h.block g hl (hn g (by rw [h1]; rfl))]; exact h3
theorem gone_step {w : World} (f : Int → Option Int) (ids : List Int) (k : Nat) (x : Int) (hx : ids[k]? = some x) (hnd : ids.Nodup) (hs : (f x).isSome = true)
    (h : Whl w B H Mb now n (fun y => if y = x then none else gone f (ids.take k) y) (if (gone f (ids.take k) x).isSome = true then sz - k - 1 else sz - k) sv sl) : Whl w B H Mb now n (gone f (ids.take (k + 1))) (sz - (k + 1)) sv sl := by
  have hn : x ∉ ids.take k := by
    intro hm
    obtain ⟨i, hi, he⟩ := List.getElem_of_mem hm
    rw [List.length_take] at hi
    obtain ⟨hk, hx2⟩ := List.getElem?_eq_some_iff.1 hx
    rw [List.getElem_take] at he
    have := (List.getElem_inj hnd).1 (he.trans hx2.symm)
    omega
  have hg : gone f (ids.take k) x = f x := by unfold gone; rw [if_neg hn]
  rw [gone_snoc, hg, if_pos hs] at h
  rw [List.take_add_one, hx]
  exact h
set_option maxRecDepth 100000 in
set_option maxHeartbeats 1000000 in
theorem fire_any (w : World) (h : Whl w B H Mb now n f sz sv sl) (hnow : now < 1099511627776) (D : Nat) (hD : dig now 0 = D) (hD2 : D < 16) (ids : List Int) (hids : sl D = ids) (hlen : ids.length ≤ 100000)
    (hi : ∀ x ∈ ids, isI x ∧ (f x).isSome = true) (hnd : ids.Nodup) :
    Calls Try.prog 56 #[.pointer (some ⟨H, 0, none⟩)] w fun e w' => e = .returned (sv D) ∧
      Whl w' B H Mb now n (gone f ids) (sz - ids.length) (at1 sv D (.slice none 0 0)) (at1 sl D []) ∧ Fr w w' (Foot H Mb sv) (Foot H Mb (at1 sv D (.slice none 0 0))) ∧
      Ir w' B (sv D) ids ∧ ∀ g, (sv D).ownBlock = some g → ¬ Foot H Mb (at1 sv D (.slice none 0 0)) g := by
  have C1 := fun w' => take_any w h hnow 0 D (by omega) hD hD2
  have ht := take_any w h hnow 0 D (by omega) hD hD2
  rw [show 16 * 0 + D = D by omega, hids] at ht
  obtain ⟨a, cap, hf, -⟩ := (h.rows D (by omega)).form
  rw [hids] at hf
  rw [hf] at ht ⊢
  have HL := hide hlen
  have HI := hide hi
  have HND := hide hnd
  clear C1 hlen hi hnd
  generalize hN : ids.length = len at *
  generalize hsv : at1 sv D (.slice none 0 0) = sv' at *
  generalize hsl : at1 sl D [] = sl' at *
  have HS := hide hsv
  have HT := hide hsl
  have HNN := hide hN
  clear hsv hsl h hN hf
  go_enter Try.func56, Try.ntmps56
  go_wp2_with (go_at_call 63; refine ht.mono ?_; rintro e w1 ⟨rfl, K1, K2, K3, K4⟩)
  have HK1 := hide K1
  have HK2 := hide K2
  have HK3 := hide K3
  have HK4 := hide K4
  clear K1 K2 K3 K4
  go_loopw [10] (fun d w' => ∃ k : Nat, k ≤ len ∧ d = .int .i64 (k : Int) ∧ Hid (Whl w' B H Mb now n (gone f (ids.take k)) (sz - k) sv' sl') ∧ Hid (Fr w1 w' (Foot H Mb sv') (Foot H Mb sv'))) (fun d _ => len - (intOf d).toNat)
  case atStart => exact ⟨0, by omega, rfl, hide (by rw [List.take_zero, gone_nil]; exact unhide HK1), hide (Fr.refl _ _)⟩
  case round =>
    obtain ⟨k, hk, rfl, HW, HF⟩ := hrel
    by_cases hl : k < len
    · obtain ⟨x, hx⟩ : ∃ x, ids[k]? = some x := ⟨ids[k]'(by rw [unhide HNN]; exact hl), List.getElem?_eq_getElem _⟩
      have hrow : Ir wr B (.slice a len cap) ids := (unhide HF).row (unhide HK3) (unhide HK4)
      obtain ⟨a2, cap2, hf2, hc⟩ := hrow.form
      obtain ⟨g, hg, hcell⟩ := hc k x hx
      have hag : a = some ⟨g, 0, none⟩ := by cases hf2; exact hg
      subst hag
      have hxm : x ∈ ids := List.mem_of_getElem? hx
      have c1 := (unhide HW).c1
      obtain ⟨w2, e1, e2, e3⟩ := (unhide HW).del x (unhide HI x hxm).1 0
      have HE2 := hide (gone_step f ids k x hx (unhide HND) (unhide HI x hxm).2 e2)
      have HE3 := hide ((unhide HF).trans e3)
      have hk9 : k < 100000 := by have := unhide HL; omega
      clear e2 e3 hrow hc hf2 hg hx hxm HW HF hids hD
      go_wp2
      go_roundw
      case rel => exact ⟨k + 1, by omega, by first | rfl | go_num, HE2, HE3⟩
      case measure => simp [intOf]; omega
    · have hkl : k = len := by omega
      subst hkl
      have HE := hide (unhide HW)
      clear HW hl hk
      go_wp2
      go_ret
      refine ⟨rfl, ?_, (unhide HK2).trans (unhide HF), (unhide HF).row (unhide HK3) (unhide HK4), unhide HK4⟩
      have h9 := unhide HE
      rw [List.take_of_length_le (by rw [unhide HNN]; exact Nat.le_refl _)] at h9
      exact h9
end
end Go.Proofs.Ytkglaklkbodjkaa
