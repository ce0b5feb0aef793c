/- A map of a client's own that tells of each timer. -/
import Derived.Test.YtjjdkkdnlnbedaaGreatEnFires
import Derived.Test.YtjjdkkdnlnbedaaGreatL15Fixed
namespace Go.Proofs.YtjjdkkdnlnbedaaGreat
open Go.RowKit Kt Qu
set_option linter.unusedVariables false

theorem wher_none' {e : En} {id : Int} : e.wher id = none ↔ ∀ t, hasT e t → t.id ≠ id := by
  unfold En.wher
  rw [List.find?_eq_none]
  constructor
  · intro h t ⟨i, hi, ht⟩ he
    exact h i (List.mem_range.2 hi) (by unfold En.hasId; exact decide_eq_true (he ▸ List.mem_map.2 ⟨t, ht, rfl⟩))
  · intro h i hi q
    unfold En.hasId at q
    obtain ⟨t, ht, he⟩ := List.mem_map.1 (of_decide_eq_true q)
    exact h t ⟨i, List.mem_range.1 hi, ht⟩ he
theorem start_has {e : En} (h : EnOk e) (cpu : Int) (t : Tmr) : ((e.start cpu t).1 ≠ 0 ∧ (e.start cpu t).2 = e) ∨ ((e.start cpu t).1 = 0 ∧ (∀ u, hasT e u → u.id ≠ t.id) ∧ (e.start cpu t).2.len = e.len + 1 ∧ ∀ u, hasT (e.start cpu t).2 u ↔ u = t ∨ hasT e u) := by
  unfold En.start
  by_cases h1 : e.on cpu = false ∨ t.clock < 0 ∨ 3 ≤ t.clock ∨ t.hard < t.soft
  · rw [if_pos h1]; exact .inl ⟨(show (2 : Int) ≠ 0 by decide), rfl⟩
  rw [if_neg h1]
  by_cases h2 : e.wher t.id ≠ none
  · rw [if_pos h2]; exact .inl ⟨(show (9 : Int) ≠ 0 by decide), rfl⟩
  rw [if_neg h2]
  by_cases h3 : 64 ≤ e.len
  · rw [if_pos h3]; exact .inl ⟨(show (3 : Int) ≠ 0 by decide), rfl⟩
  rw [if_neg h3]
  have hon : e.on cpu = true := by cases q : e.on cpu with | true => rfl | false => exact absurd (.inl q) h1
  have hi := on_lt h hon
  generalize cpu.toNat = i at *
  obtain ⟨x, hx⟩ : ∃ x : Cp, x = { e.cp i with L := insA t (e.cp i).L } := ⟨_, rfl⟩
  have hxL : x.L = insA t (e.cp i).L := by rw [hx]
  rw [← hx]
  obtain ⟨-, -, -, -, b⟩ := look_flags e x
  rw [hxL] at b
  have hp := insA_perm t (e.cp i).L
  refine .inr ⟨rfl, wher_none'.1 (by simpa using h2), ?_, fun u => ⟨fun ⟨j, hj, hu⟩ => ?_, ?_⟩⟩
  · have := lenTo_set e (e.look x) hi
    rw [b, hp.length_eq, List.length_cons] at this
    show lenTo (e.set i (e.look x)) e.n = lenTo e e.n + 1
    omega
  · replace hu : u ∈ ((e.set i (e.look x)).cp j).L := hu
    by_cases q : j = i
    · subst q
      rw [En.set_at, b] at hu
      rcases List.mem_cons.1 (hp.mem_iff.1 hu) with q | q
      · exact .inl q
      · exact .inr ⟨j, hj, q⟩
    · rw [En.set_ne e _ q] at hu
      exact .inr ⟨j, hj, hu⟩
  · rintro (rfl | ⟨j, hj, hu⟩)
    · refine ⟨i, hi, ?_⟩
      show u ∈ ((e.set i (e.look x)).cp i).L
      rw [En.set_at, b]; exact hp.mem_iff.2 (List.mem_cons_self ..)
    · refine ⟨j, hj, ?_⟩
      show u ∈ ((e.set i (e.look x)).cp j).L
      by_cases q : j = i
      · subst q
        rw [En.set_at, b]; exact hp.mem_iff.2 (List.mem_cons_of_mem _ hu)
      · rw [En.set_ne e _ q]; exact hu
theorem one_id {id : Int} : ∀ {L : List Tmr}, (idsT L).Nodup → id ∈ idsT L → (L.filter fun u => decide (u.id ≠ id)).length + 1 = L.length
  | [], _, h => by cases h
  | y :: r, hn, hm => by
    obtain ⟨n1, n2⟩ := List.nodup_cons.1 (show (y.id :: idsT r).Nodup from hn)
    rw [List.filter_cons]
    by_cases q : y.id = id
    · rw [if_neg (by simp [q]), List.filter_eq_self.2]
      · rfl
      · intro z hz
        exact decide_eq_true fun he => n1 (by rw [q, ← he]; exact List.mem_map.2 ⟨z, hz, rfl⟩)
    · rw [if_pos (by simp [q])]
      rcases List.mem_cons.1 (show id ∈ y.id :: idsT r from hm) with e | hm
      · exact absurd e.symm q
      · have := one_id n2 hm
        simp only [List.length_cons]; omega
theorem cancel_has {e : En} (h : EnOk e) (id : Int) : (((∀ t, hasT e t → t.id ≠ id) ∧ (e.cancel id).2 = e ∧ (e.cancel id).1 ≠ 0) ∨ ((e.cancel id).1 = 0 ∧ (∃ t, hasT e t ∧ t.id = id) ∧ (e.cancel id).2.len + 1 = e.len)) ∧ ∀ u, hasT (e.cancel id).2 u ↔ hasT e u ∧ u.id ≠ id := by
  unfold En.cancel
  cases hw : e.wher id with
  | none =>
    have := wher_none'.1 hw
    exact ⟨.inl ⟨this, rfl, (show (7 : Int) ≠ 0 by decide)⟩, fun u => ⟨fun q => ⟨q, this u q⟩, fun q => q.1⟩⟩
  | some i =>
    have hi : i < e.n := List.mem_range.1 (List.mem_of_find?_eq_some hw)
    have hp : id ∈ idsT (e.cp i).L := of_decide_eq_true (List.find?_some hw : e.hasId id i = true)
    obtain ⟨t, ht, he⟩ := List.mem_map.1 hp
    have h1 := one_id (h.nd i hi) hp
    have h2 := lenTo_set e { e.cp i with L := (e.cp i).L.filter fun t => decide (t.id ≠ id) } hi
    refine ⟨.inr ⟨rfl, ⟨t, ⟨i, hi, ht⟩, he⟩, ?_⟩, fun u => ⟨fun ⟨j, hj, hu⟩ => ?_, fun ⟨⟨j, hj, hu⟩, hne⟩ => ⟨j, hj, ?_⟩⟩⟩
    · show lenTo (e.set i { e.cp i with L := (e.cp i).L.filter fun t => decide (t.id ≠ id) }) e.n + 1 = lenTo e e.n
      replace h2 : lenTo (e.set i { e.cp i with L := (e.cp i).L.filter fun t => decide (t.id ≠ id) }) e.n + (e.cp i).L.length = lenTo e e.n + ((e.cp i).L.filter fun t => decide (t.id ≠ id)).length := h2
      omega
    · replace hu : u ∈ ((e.set i { e.cp i with L := (e.cp i).L.filter fun t => decide (t.id ≠ id) }).cp j).L := hu
      by_cases q : j = i
      · subst q
        rw [En.set_at] at hu
        obtain ⟨a, b⟩ := List.mem_filter.1 hu
        exact ⟨⟨j, hj, a⟩, of_decide_eq_true b⟩
      · rw [En.set_ne e _ q] at hu
        exact ⟨⟨j, hj, hu⟩, fun hid => h.dj j i id hj hi q (hid ▸ List.mem_map.2 ⟨u, hu, rfl⟩) hp⟩
    · show u ∈ ((e.set i { e.cp i with L := (e.cp i).L.filter fun t => decide (t.id ≠ id) }).cp j).L
      by_cases q : j = i
      · subst q
        rw [En.set_at]; exact List.mem_filter.2 ⟨hu, decide_eq_true hne⟩
      · rw [En.set_ne e _ q]; exact hu
section
variable {β : Type} {v : Tmr → β} {e e' : En} {sm : Int → Option β}
def Knows (v : Tmr → β) (e : En) (sm : Int → Option β) : Prop := ∀ x b, sm x = some b ↔ ∃ t, hasT e t ∧ t.id = x ∧ v t = b
def offM (sm : Int → Option β) (ids : List Int) : Int → Option β := fun x => if x ∈ ids then none else sm x
theorem offM_nil (sm : Int → Option β) : offM sm [] = sm := by funext x; simp [offM]
theorem Knows.fires {l : List Frd} (h : Knows v e sm) (hf : Fires e e' l) : Knows v e' (offM sm (idsF l)) := by
  intro x b
  unfold offM
  by_cases q : x ∈ idsF l
  · rw [if_pos q]
    constructor
    · intro h; cases h
    · rintro ⟨t, ht, rfl, -⟩; exact absurd q ((hf.has t).1 ht).2
  · rw [if_neg q, h x b]
    constructor
    · rintro ⟨t, ht, rfl, hb⟩; exact ⟨t, (hf.has t).2 ⟨ht, q⟩, rfl, hb⟩
    · rintro ⟨t, ht, rfl, hb⟩; exact ⟨t, ((hf.has t).1 ht).1, rfl, hb⟩
theorem Knows.no {x : Int} (h : Knows v e sm) (hn : ∀ t, hasT e t → t.id ≠ x) : sm x = none := by
  cases hs : sm x with
  | none => rfl
  | some b => obtain ⟨t, ht, he, -⟩ := (h x b).1 hs; exact absurd he (hn t ht)
theorem Knows.start {t : Tmr} (h : Knows v e sm) (hn : ∀ u, hasT e u → u.id ≠ t.id) (hh : ∀ u, hasT e' u ↔ u = t ∨ hasT e u) : Knows v e' (fun x => if x = t.id then some (v t) else sm x) := by
  intro x b
  by_cases q : x = t.id
  · subst q
    simp only [if_true]
    constructor
    · intro hb; cases hb; exact ⟨t, (hh t).2 (.inl rfl), rfl, rfl⟩
    · rintro ⟨u, hu, he, rfl⟩
      rcases (hh u).1 hu with rfl | hu
      · rfl
      · exact absurd he (hn u hu)
  · simp only [if_neg q]; rw [h x b]
    constructor
    · rintro ⟨u, hu, he, hb⟩; exact ⟨u, (hh u).2 (.inr hu), he, hb⟩
    · rintro ⟨u, hu, he, hb⟩
      rcases (hh u).1 hu with rfl | hu
      · exact absurd he.symm q
      · exact ⟨u, hu, he, hb⟩
theorem Knows.del {id : Int} (h : Knows v e sm) (hh : ∀ u, hasT e' u ↔ hasT e u ∧ u.id ≠ id) : Knows v e' (fun x => if x = id then none else sm x) := by
  intro x b
  by_cases q : x = id
  · subst q
    simp only [if_true]
    constructor
    · intro hb; cases hb
    · rintro ⟨u, hu, he, -⟩; exact absurd he ((hh u).1 hu).2
  · simp only [if_neg q]; rw [h x b]
    constructor
    · rintro ⟨u, hu, he, hb⟩; exact ⟨u, (hh u).2 ⟨hu, fun z => q (he.symm.trans z)⟩, he, hb⟩
    · rintro ⟨u, hu, he, hb⟩; exact ⟨u, ((hh u).1 hu).1, he, hb⟩
theorem off_step (sm : Int → Option β) {ids : List Int} {k : Nat} {x : Int} (hx : ids[k]? = some x) : (fun y => if y = x then none else offM sm (ids.take k) y) = offM sm (ids.take (k + 1)) := by
  funext y
  unfold offM
  rw [List.take_add_one, hx, Option.toList_some]
  by_cases q : y = x
  · rw [if_pos q, if_pos (by simp [q])]
  · rw [if_neg q]
    by_cases p : y ∈ ids.take k
    · rw [if_pos p, if_pos (by simp [p])]
    · rw [if_neg p, if_neg (by simp [p, q])]
theorem off_at (sm : Int → Option β) {ids : List Int} {k : Nat} {x : Int} (hx : ids[k]? = some x) (hnd : ids.Nodup) : offM sm (ids.take k) x = sm x := by
  have hn : x ∉ ids.take k := by
    intro hm
    obtain ⟨i, hi, he⟩ := List.getElem_of_mem hm
    rw [List.length_take] at hi
    obtain ⟨hk, hx2⟩ := List.getElem?_eq_some_iff.1 hx
    rw [List.getElem_take] at he
    have := (List.getElem_inj hnd).1 (he.trans hx2.symm)
    omega
  unfold offM; rw [if_neg hn]
end
abbrev SMap (w : World) (b n : Nat) (sm : Int → Option Int) (sz : Nat) : Prop := GMap Tryz.prog 3 (fun x : Int => Value.int .i64 x) (fun x : Int => Value.int .i64 x) w b n sm sz
theorem smKey : Go.Maps.Keyed Tryz.prog 3 := Go.Maps.int_keyed Tryz.underlying3
theorem smHas {x : Int} (h : isI x) : (keyOf Tryz.prog 3 (.int .i64 x)).isSome = true := by rw [Go.Maps.keyOf_int_mk Tryz.underlying3 h]; rfl
theorem smInj : ∀ x y : Int, Value.int .i64 x = Value.int .i64 y → x = y := fun x y h => by cases h; rfl
theorem smZero (w : World) : (zeroValue 3).run Tryz.prog w = .ok (.int .i64 0) w := by kernel_rfl
theorem fcells {w : World} {C n cap : Nat} {a : Option Addr} {L : List Frd} (h : Rd rfd w C a n cap L) {j : Nat} {t : Frd} (hj : L[j]? = some t) : ∃ g o, a = some ⟨g, o, none⟩ ∧ g < w.heap.size ∧
    w.cell? ⟨g, o + j * 5, none⟩ = some (.int .i64 t.id) ∧ w.cell? ⟨g, o + j * 5 + 1, none⟩ = some (.int .i64 t.clock) ∧ w.cell? ⟨g, o + j * 5 + 2, none⟩ = some (.int .i64 t.cpu) ∧ w.cell? ⟨g, o + j * 5 + 3, none⟩ = some (.int .i64 t.mono) ∧ w.cell? ⟨g, o + j * 5 + 4, none⟩ = some (.int .i64 t.rd) := by
  obtain ⟨g, o, e, hc⟩ := h.cell j t hj
  exact ⟨g, o, e, (h.blk _ e).2.1, hc 0 _ rfl, hc 1 _ rfl, hc 2 _ rfl, hc 3 _ rfl, hc 4 _ rfl⟩
end Go.Proofs.YtjjdkkdnlnbedaaGreat
