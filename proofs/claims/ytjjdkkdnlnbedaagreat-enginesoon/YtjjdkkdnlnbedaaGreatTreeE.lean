import Derived.Test.YtjjdkkdnlnbedaaGreatTreeD
import Derived.Test.YtjjdkkdnlnbedaaGreatTreeA
import Derived.Test.YtjjdkkdnlnbedaaGreatTreeB
namespace Go.Proofs.YtjjdkkdnlnbedaaGreat
open Go.RowKit

theorem len_any (T G P : Nat) (st : St) (w : World) (h : Own w T G P st) :
    Calls Tryz.prog 108 #[.pointer (some ⟨T, 0, none⟩)] w fun e w' => e = .returned (.int .i64 st.count) ∧ w' = w := by
  have cc := h.count
  go_enter Tryz.func108, Tryz.ntmps108
  go_wp2
  go_ret
  exact ⟨rfl, rfl⟩
theorem len_nil (w : World) : Calls Tryz.prog 108 #[.pointer none] w fun e w' => e = .returned (.int .i64 0) ∧ w' = w := by
  go_enter Tryz.func108, Tryz.ntmps108
  go_wp2
  go_ret
  exact ⟨rfl, rfl⟩

/-- The handle of a place, or none. -/
def hdl (st : St) (n : Nat) : Value := if n = 0 then .tuple #[.agg #[.int .i64 0, .int .i64 0], .bool false] else .tuple #[.agg #[.int .i64 n, .int .i64 (st.nd n).turn], .bool true]

set_option maxHeartbeats 1000000 in
theorem firstH_any (T G P : Nat) (st : St) (w : World) (h : Own w T G P st) (t : Tr) (hz : Z P st .top t) :
    Calls Tryz.prog 90 #[.pointer (some ⟨T, 0, none⟩)] w fun e w' => e = .returned (hdl st (t.fst 0)) ∧ Below w.heap.size w w' := by
  have cr := h.root
  rw [show st.root = t.root from hz.root] at cr
  have hf : t.fst 0 ≤ P := by
    rw [fst_list]
    cases hl : t.list with
    | nil => exact Nat.zero_le _
    | cons a b => exact hz.nd.bt a (by rw [hl]; simp)
  have CF := hide (fun (w' : World) (o' : Own w' T G P st) => first_any T G P st w' o' t 0 hz.sh hz.bdt)
  have CH := hide (fun (w' : World) (o' : Own w' T G P st) => handle_any T G P st w' o' (t.fst 0) hf)
  have hO := hide h
  unfold hdl
  have hTl := h.box.lt
  obtain ⟨B, hB⟩ : ∃ B, w.heap.size = B := ⟨_, rfl⟩
  have hTB : T < B := by rw [← hB]; exact hTl
  have hO0 := hide (And.intro (h.below (one_below w (.cells #[.int .i64 0, .int .i64 0] 123))) (Blk.new_at w 123 #[.int .i64 0, .int .i64 0] hB.symm))
  obtain ⟨n, hn⟩ : ∃ x, t.fst 0 = x := ⟨_, rfl⟩
  rw [hn] at CF CH ⊢
  clear h hz hf hn hO
  by_cases h0 : n = 0
  · subst h0
    rw [if_pos rfl] at CH ⊢
    go_enter Tryz.func90, Tryz.ntmps90
    go_wp2_with (first | (go_at_call 110; refine ((unhide CF) _ (unhide hO0).1).mono ?_; rintro e w1 ⟨rfl, m1, rfl⟩) | (go_at_call 109; refine Hid.out ?_))
    refine hide ?_
    refine ((unhide CH) _ ((unhide hO0).1.drew _)).mono ?_
    rintro e w2 ⟨rfl, hb2⟩
    have k2 := ((unhide hO0).2.drewN m1).below hb2 ((unhide hO0).2.drewN m1).lt
    have g0 := k2.cell 0
    have g1 := k2.cell 1
    have f0 := k2.free 0
    have f1 := k2.free 1
    simp only [List.getElem?_toArray, List.getElem?_cons_zero, List.getElem?_cons_succ] at g0 g1
    have HB := hide hb2
    clear k2 hb2
    go_wp2
    refine bodyPost_ret (v := .tuple #[.agg #[.int .i64 0, .int .i64 0], .bool false]) (by simp [results, Tryz.results90, go_sem, g0, g1]) rfl ⟨rfl, ?_⟩
    have hb0 := (one_below w (.cells #[.int .i64 0, .int .i64 0] 123))
    have hb3 := (below_drewN hb0 m1).trans ((unhide HB).mono (B' := w.heap.size) (below_drewN hb0 m1).size)
    first
      | exact (hb3.setCell (by dsimp only; omega) _).setCell (by dsimp only; omega) _
      | exact hb3
  · rw [if_neg h0] at CH ⊢
    go_enter Tryz.func90, Tryz.ntmps90
    go_wp2_with (first | (go_at_call 110; refine ((unhide CF) _ (unhide hO0).1).mono ?_; rintro e w1 ⟨rfl, m1, rfl⟩) | (go_at_call 109; refine Hid.out ?_))
    refine hide ?_
    refine ((unhide CH) _ ((unhide hO0).1.drew _)).mono ?_
    rintro e w2 ⟨rfl, hb2⟩
    have k2 := ((unhide hO0).2.drewN m1).below hb2 ((unhide hO0).2.drewN m1).lt
    have g0 := k2.cell 0
    have g1 := k2.cell 1
    have f0 := k2.free 0
    have f1 := k2.free 1
    simp only [List.getElem?_toArray, List.getElem?_cons_zero, List.getElem?_cons_succ] at g0 g1
    have HB := hide hb2
    clear k2 hb2
    go_wp2
    refine bodyPost_ret (v := .tuple #[.agg #[.int .i64 n, .int .i64 (st.nd n).turn], .bool true]) (by simp [results, Tryz.results90, go_sem, g0, g1]) rfl ⟨rfl, ?_⟩
    have hb0 := (one_below w (.cells #[.int .i64 0, .int .i64 0] 123))
    have hb3 := (below_drewN hb0 m1).trans ((unhide HB).mono (B' := w.heap.size) (below_drewN hb0 m1).size)
    first
      | exact (hb3.setCell (by dsimp only; omega) _).setCell (by dsimp only; omega) _
      | exact hb3

theorem firstH_nil (w : World) : Calls Tryz.prog 90 #[.pointer none] w fun e w' => e = .returned (.tuple #[.agg #[.int .i64 0, .int .i64 0], .bool false]) ∧ Below w.heap.size w w' := by
  go_enter Tryz.func90, Tryz.ntmps90
  go_wp2
  exact bodyPost_ret (v := .tuple #[.agg #[.int .i64 0, .int .i64 0], .bool false]) (by simp [results, Tryz.results90, go_sem]) rfl ⟨rfl, one_below _ _⟩

set_option maxHeartbeats 1000000 in
theorem nextH_any (T G P : Nat) (st : St) (w : World) (h : Own w T G P st) (cx : Cx) (n : Nat) (l r : Tr) (hz : Z P st cx (.node n l r)) (tn : Int) (hh : hasB P st n tn = true) :
    Calls Tryz.prog 91 #[.pointer (some ⟨T, 0, none⟩), .agg #[.int .i64 n, .int .i64 tn]] w fun e w' => e = .returned (hdl st (nextOf cx r)) ∧ Below w.heap.size w w' := by
  have hP := h.hP
  obtain ⟨W0, hW0⟩ : ∃ W0, W0 = (w.alloc (.cells #[.int .i64 n, .int .i64 tn] 123)).alloc (.cells #[.int .i64 0, .int .i64 0] 123) := ⟨_, rfl⟩
  obtain ⟨B, hB⟩ : ∃ B, w.heap.size = B := ⟨_, rfl⟩
  have b0 : Below w.heap.size w W0 := by rw [hW0]; exact two_below _ _ _ 0
  have o0 : Own W0 T G P st := h.below b0
  have k0 : Blk W0 B 123 #[.int .i64 n, .int .i64 tn] := by rw [hW0]; exact (Blk.new_at w _ _ hB.symm).alloc _
  have k1 : Blk W0 (B + 1) 123 #[.int .i64 0, .int .i64 0] := by rw [hW0]; exact Blk.new_at (w.alloc _) _ _ (by simp [hB])
  have HW := hide hW0
  have CH := hide (has_any T G P st W0 o0 n tn)
  rw [hh] at CH
  have hxP : nextOf cx r ≤ P := by
    unfold nextOf
    cases r with
    | nil =>
      have : ∀ cx : Cx, (∀ x ∈ cx.places, x ≤ P) → cx.nxt ≤ P := by
        intro cx
        induction cx with
        | top => intro _; exact Nat.zero_le _
        | fr s p sib up ih =>
          intro hb
          cases s
          · exact hb p (by simp [Cx.places])
          · exact ih (fun x hx => hb x (by simp [Cx.places, hx]))
      exact this cx hz.nd.bc
    | node p a b =>
      show Tr.fst 0 (.node p a b) ≤ P
      rw [fst_list]
      cases hl : (Tr.node p a b).list with
      | nil => exact Nat.zero_le _
      | cons x y => exact hz.nd.bt x (by simp only [Tr.list] at hl ⊢; simp [hl])
  have CN := hide (fun (w' : World) (o' : Own w' T G P st) => next_any T G P st w' o' cx n l r hz)
  have CD := hide (fun (w' : World) (o' : Own w' T G P st) => handle_any T G P st w' o' (nextOf cx r) hxP)
  have O0 := hide (And.intro o0 (And.intro b0 (And.intro k0 k1)))
  have hBG : G < B := by rw [← hB]; exact h.lt
  have hBT : T < B := by rw [← hB]; exact h.box.lt
  unfold hdl
  obtain ⟨x, hx⟩ : ∃ x, nextOf cx r = x := ⟨_, rfl⟩
  rw [hx] at CN CD ⊢
  clear hW0 o0 b0 k0 k1 h hz hh hxP hx
  by_cases h0 : x = 0
  · subst h0
    rw [if_pos rfl] at CD ⊢
    go_enter Tryz.func91, Tryz.ntmps91
    go_wp2_with (go_at_call 111; refine Hid.out ?_)
    refine hide ?_
    rw [← unhide HW]
    refine (unhide CH).mono ?_
    rintro e w1 ⟨rfl, hb1⟩
    have q0 := ((unhide O0).2.2.1.below hb1 (unhide O0).2.2.1.lt).cell 0
    simp only [List.getElem?_toArray, List.getElem?_cons_zero] at q0
    have O1 := hide (And.intro ((unhide O0).1.below hb1) (And.intro ((unhide O0).2.1.trans (hb1.mono (unhide O0).2.1.size)) ((unhide O0).2.2.2.below hb1 (unhide O0).2.2.2.lt)))
    clear hb1
    go_wp2_with (first | (go_at_call 112; refine ((unhide CN) _ (unhide O1).1).mono ?_; rintro e w2 ⟨rfl, m2, rfl⟩) | (go_at_call 109; refine Hid.out ?_))
    refine hide ?_
    refine ((unhide CD) _ ((unhide O1).1.drew _)).mono ?_
    rintro e w3 ⟨rfl, hb3⟩
    have k3 := ((unhide O1).2.2.drewN m2).below hb3 ((unhide O1).2.2.drewN m2).lt
    have g0 := k3.cell 0
    have g1 := k3.cell 1
    have f0 := k3.free 0
    have f1 := k3.free 1
    simp only [List.getElem?_toArray, List.getElem?_cons_zero, List.getElem?_cons_succ] at g0 g1
    have HB := hide ((below_drewN (unhide O1).2.1 m2).trans (hb3.mono (below_drewN (unhide O1).2.1 m2).size))
    clear k3 hb3
    go_wp2
    refine bodyPost_ret (v := .tuple #[.agg #[.int .i64 0, .int .i64 0], .bool false]) (by simp [results, Tryz.results91, go_sem, g0, g1]) rfl ⟨rfl, ?_⟩
    have hb4 : Below B w w3 := by rw [← hB]; exact unhide HB
    try rw [hB]
    exact (hb4.setCell (p := ⟨B + 1, 0, none⟩) (by dsimp only; omega) (.int .i64 0)).setCell (p := ⟨B + 1, 1, none⟩) (by dsimp only; omega) (.int .i64 0)
  · rw [if_neg h0] at CD ⊢
    go_enter Tryz.func91, Tryz.ntmps91
    go_wp2_with (go_at_call 111; refine Hid.out ?_)
    refine hide ?_
    rw [← unhide HW]
    refine (unhide CH).mono ?_
    rintro e w1 ⟨rfl, hb1⟩
    have q0 := ((unhide O0).2.2.1.below hb1 (unhide O0).2.2.1.lt).cell 0
    simp only [List.getElem?_toArray, List.getElem?_cons_zero] at q0
    have O1 := hide (And.intro ((unhide O0).1.below hb1) (And.intro ((unhide O0).2.1.trans (hb1.mono (unhide O0).2.1.size)) ((unhide O0).2.2.2.below hb1 (unhide O0).2.2.2.lt)))
    clear hb1
    go_wp2_with (first | (go_at_call 112; refine ((unhide CN) _ (unhide O1).1).mono ?_; rintro e w2 ⟨rfl, m2, rfl⟩) | (go_at_call 109; refine Hid.out ?_))
    refine hide ?_
    refine ((unhide CD) _ ((unhide O1).1.drew _)).mono ?_
    rintro e w3 ⟨rfl, hb3⟩
    have k3 := ((unhide O1).2.2.drewN m2).below hb3 ((unhide O1).2.2.drewN m2).lt
    have g0 := k3.cell 0
    have g1 := k3.cell 1
    have f0 := k3.free 0
    have f1 := k3.free 1
    simp only [List.getElem?_toArray, List.getElem?_cons_zero, List.getElem?_cons_succ] at g0 g1
    have HB := hide ((below_drewN (unhide O1).2.1 m2).trans (hb3.mono (below_drewN (unhide O1).2.1 m2).size))
    clear k3 hb3
    go_wp2
    refine bodyPost_ret (v := .tuple #[.agg #[.int .i64 x, .int .i64 (st.nd x).turn], .bool true]) (by simp [results, Tryz.results91, go_sem, g0, g1]) rfl ⟨rfl, ?_⟩
    have hb4 : Below B w w3 := by rw [← hB]; exact unhide HB
    try rw [hB]
    exact (hb4.setCell (p := ⟨B + 1, 0, none⟩) (by dsimp only; omega) (.int .i64 x)).setCell (p := ⟨B + 1, 1, none⟩) (by dsimp only; omega) (.int .i64 (st.nd x).turn)
end Go.Proofs.YtjjdkkdnlnbedaaGreat


namespace Go.Proofs.YtjjdkkdnlnbedaaGreat
open Go.RowKit

theorem node_info : (Tryz.prog.info? 154).map (fun i => (i.zero, i.size, i.bytes)) = some (some (.agg #[.int .i64 0, .int .i64 0, .int .i64 0, .bool false, .bool false, .int .i64 0, .int .i64 0, .int .i64 0]), 8, 56) := by kernel_rfl

def zeros (n : Nat) : Array Value := madeCells #[.int .i64 0, .int .i64 0, .int .i64 0, .bool false, .bool false, .int .i64 0, .int .i64 0, .int .i64 0] (n * 8)
theorem make_nodes (w : World) (n : Nat) (hn : n ≤ 4097) :
    (Instr.makeSlice 139 (.int .i64 (n : Int)) (.int .i64 (n : Int))).run Tryz.prog w = .ok (.slice (some ⟨w.heap.size, 0, none⟩) n n) (w.alloc (.cells (zeros n) 154)) := by
  have hi := node_info
  cases h : Tryz.prog.info? 154 with
  | none => rw [h] at hi; cases hi
  | some i =>
    rw [h] at hi
    simp only [Option.map_some, Option.some.injEq, Prod.mk.injEq] at hi
    obtain ⟨h1, h2, h3⟩ := hi
    have := run_make (P := Tryz.prog) w 139 154 i _ Tryz.underlying139 h h1 .i64 .i64 n n (by omega) (by omega) (by rw [h3]; omega) (by omega)
    rw [h2] at this
    exact this

def zeroNd : Nd := ⟨0, 0, 0, false, false, 0, fun _ => 0⟩
theorem zeros_holds {w : World} {G P : Nat} {t : TypeId} (h : Blk w G t (zeros (P + 1))) : Holds w G P (fun _ => zeroNd) := by
  refine ⟨fun i hi k hk => ?_, fun j => h.free j⟩
  rw [h.cell]
  unfold zeros madeCells
  have e : i * 8 + k < (P + 1) * 8 := by omega
  have e2 : (i * 8 + k) % 8 = k := by omega
  simp [e, e2]
  rcases (show k = 0 ∨ k = 1 ∨ k = 2 ∨ k = 3 ∨ k = 4 ∨ k = 5 ∨ k = 6 ∨ k = 7 by omega) with rfl | rfl | rfl | rfl | rfl | rfl | rfl | rfl <;> rfl

theorem new_bad (p : Int) (h : p < 1 ∨ 4096 < p) (w : World) : Calls Tryz.prog 125 #[.int .i64 p] w fun e w' => e = .returned (.pointer none) ∧ w' = w := by
  rcases h with h | h
  all_goals
    go_enter Tryz.func125, Tryz.ntmps125
    go_wp2
    go_ret
    exact ⟨rfl, rfl⟩

def newNd (k x : Nat) : Nd := ⟨0, 0, 0, false, false, 0, fun s => if s then 0 else if 1 ≤ x ∧ x < k then x + 1 else 0⟩
def newSt (k : Nat) : St := ⟨newNd k, 0, 1, 0⟩
theorem newNd_one : newNd 1 = fun _ => zeroNd := by
  funext x
  unfold newNd zeroNd
  congr 1
  funext s
  cases s
  · rw [if_neg (by simp), if_neg (by omega)]
  · rfl
theorem newNd_succ (k : Nat) (hk : 1 ≤ k) : setDn (newNd k) k false (k + 1) = newNd (k + 1) := by
  funext x
  unfold setDn setAt
  by_cases e : x = k
  · subst e
    rw [if_pos rfl]
    show (⟨0, 0, 0, false, false, 0, fun t => if t = false then x + 1 else (newNd x x).dn t⟩ : Nd) = ⟨0, 0, 0, false, false, 0, fun s => if s then 0 else if 1 ≤ x ∧ x < x + 1 then x + 1 else 0⟩
    simp only [Nd.mk.injEq, true_and]
    funext s
    cases s
    · simp; omega
    · rfl
  · rw [if_neg e]
    show (⟨0, 0, 0, false, false, 0, fun s => if s then 0 else if 1 ≤ x ∧ x < k then x + 1 else 0⟩ : Nd) = ⟨0, 0, 0, false, false, 0, fun s => if s then 0 else if 1 ≤ x ∧ x < k + 1 then x + 1 else 0⟩
    simp only [Nd.mk.injEq, true_and]
    funext s
    cases s
    · have : (1 ≤ x ∧ x < k) = (1 ≤ x ∧ x < k + 1) := by apply propext; omega
      simp only [this]
    · rfl
theorem new_chain (P : Nat) : ∀ (m a : Nat), 1 ≤ a → a + m = P + 1 → (m = 0 → a = P + 1) → Chain (newNd P) (if m = 0 then 0 else a) (List.range' a m)
  | 0, a, _, _, _ => rfl
  | m + 1, a, h1, h2, _ => by
    rw [if_neg (by omega), List.range'_succ]
    refine ⟨rfl, by omega, ?_⟩
    have e : (newNd P a).dn false = if m = 0 then 0 else a + 1 := by
      show (if (false : Bool) = true then 0 else if 1 ≤ a ∧ a < P then a + 1 else 0) = _
      rw [if_neg (by simp)]
      by_cases q : m = 0
      · rw [if_pos q, if_neg (by omega)]
      · rw [if_neg q, if_pos (by omega)]
    rw [e]
    exact new_chain P m (a + 1) (by omega) (by omega) (by omega)
theorem new_inv (P : Nat) (h1 : 1 ≤ P) : Inv P (newSt P) .nil (List.range' 1 P) := by
  refine ⟨⟨⟨trivial, trivial, ⟨by simp [Tr.list], by simp [Cx.places], by simp [Tr.list], by simp [Tr.list], by simp [Cx.places]⟩, rfl, ⟨rfl, rfl, rfl, ?_⟩⟩, ⟨0, rfl⟩, rfl⟩, by simp [Srt, Tr.list], ?_, ?_, List.nodup_range', ?_, ?_, rfl⟩
  · intro s
    show (if s then 0 else if 1 ≤ 0 ∧ 0 < P then 0 + 1 else 0) = 0
    cases s
    · rw [if_neg (by simp), if_neg (by omega)]
    · rfl
  · intro x _
    simp [newSt, newNd, Tr.list]
  · have := new_chain P P 1 (by omega) (by omega) (by omega)
    rw [if_neg (by omega)] at this
    exact this
  · intro x hx
    rw [List.mem_range'_1] at hx
    exact ⟨by omega, by omega, by simp [Tr.list]⟩
  · simp [Tr.list]

set_option maxRecDepth 100000 in
set_option maxHeartbeats 1000000 in
theorem new_any (P : Nat) (h1 : 1 ≤ P) (h2 : P ≤ 4096) (w : World) :
    Calls Tryz.prog 125 #[.int .i64 P] w fun e w' => ∃ T G st, e = .returned (.pointer (some ⟨T, 0, none⟩)) ∧ Own w' T G P st ∧ Below w.heap.size w w' ∧ w.heap.size ≤ T ∧ w.heap.size ≤ G ∧ Inv P st .nil (List.range' 1 P) ∧ ∀ x, (st.nd x).turn = 0 := by
  have hmk := fun w => make_nodes w (P + 1) (by omega)
  rw [show ((P + 1 : Nat) : Int) = (P : Int) + 1 from rfl] at hmk
  obtain ⟨B, hB⟩ : ∃ B, w.heap.size = B := ⟨_, rfl⟩
  go_enter Tryz.func125, Tryz.ntmps125
  go_wp2
  go_loopw [4] (fun s4 wr => ∃ k : Nat, 1 ≤ k ∧ k ≤ P ∧ s4 = .int .i64 k ∧ Own wr (B + 1) B P (newSt k) ∧ Below B w wr) (fun s4 _ => P - (intOf s4).toNat)
  case atStart =>
    refine ⟨1, by omega, h1, rfl, ⟨h2, by omega, ?_, ?_, ?_⟩, ?_⟩
    · exact Blk.new_at (w.alloc _) _ _ (by simp [hB])
    · show Holds _ B P (newNd 1)
      rw [newNd_one]
      exact zeros_holds ((Blk.new_at w 154 (zeros (P + 1)) hB.symm).alloc _)
    · exact ((Blk.new_at w 154 (zeros (P + 1)) hB.symm).alloc _).lt
    · rw [← hB]; exact two_below _ _ _ 0
  case round =>
    obtain ⟨k, hk1, hk2, rfl, o, hbel⟩ := hrel
    by_cases hlt : k < P
    · have c0 := o.slice
      have d6 := (o.at k (by omega)).2.2.2.2.2.2.1
      have fr := o.nod.free
      have hO := hide (And.intro o hbel)
      clear o hbel
      go_wp2
      go_roundw
      case rel =>
        have q := (unhide hO).1.putDn0 k (k + 1) (by omega)
        rw [show ({ newSt k with nd := setDn (newSt k).nd k false (k + 1) } : St) = newSt (k + 1) from by unfold newSt; simp only; rw [newNd_succ k hk1]] at q
        exact ⟨k + 1, by omega, by omega, by go_num, q, (unhide hO).2.setCell (by dsimp only; omega) _⟩
      case measure => simp [intOf]; omega
    · have e : k = P := by omega
      subst e
      have hO := hide (And.intro o hbel)
      clear o hbel
      go_wp2
      go_ret
      exact ⟨B + 1, B, newSt k, rfl, (unhide hO).1, by rw [hB]; exact (unhide hO).2, by omega, by omega, new_inv k h1, fun _ => rfl⟩
end Go.Proofs.YtjjdkkdnlnbedaaGreat


namespace Go.Proofs.YtjjdkkdnlnbedaaGreat
open Go.RowKit

theorem least_le : ∀ t : Tr, t.least ≤ t.size ∧ t.most ≤ t.size
  | .nil => ⟨Nat.le_refl _, Nat.le_refl _⟩
  | .node p l r => by
    have a := least_le l
    have b := least_le r
    simp only [Tr.least, Tr.most, Tr.size]
    omega
theorem size_list : ∀ t : Tr, t.size = t.list.length
  | .nil => rfl
  | .node p l r => by
    rw [Tr.size, Tr.list, List.length_append, List.length_cons, size_list l, size_list r]; omega

end Go.Proofs.YtjjdkkdnlnbedaaGreat


namespace Go.Proofs.YtjjdkkdnlnbedaaGreat
open Go.RowKit

/-- The first place, on the way down, whose time isn't below one. -/
def atD (st : St) (tm : Int) : Tr → Nat → Nat
  | .nil, d => d
  | .node p l r, d => if tm ≤ (st.nd p).time then atD st tm l p else atD st tm r d
theorem atD_find (st : St) (tm : Int) : ∀ (t : Tr) (d : Nat), Srt st t.list → atD st tm t d = (t.list.find? (fun x => decide (tm ≤ (st.nd x).time))).getD d
  | .nil, d, _ => rfl
  | .node p l r, d, hs => by
    have hs' := hs
    unfold Srt at hs'
    rw [Tr.list, List.pairwise_append, List.pairwise_cons] at hs'
    obtain ⟨h1, ⟨h2, h3⟩, h4⟩ := hs'
    rw [atD, Tr.list, List.find?_append, List.find?_cons]
    by_cases c : tm ≤ (st.nd p).time
    · rw [if_pos c, atD_find st tm l p h1]
      simp only [c, decide_true]
      cases List.find? (fun x => decide (tm ≤ (st.nd x).time)) l.list <;> rfl
    · rw [if_neg c, atD_find st tm r d h3]
      have hn : l.list.find? (fun x => decide (tm ≤ (st.nd x).time)) = none := by
        rw [List.find?_eq_none]
        intro x hx
        have := h4 x hx p (by simp)
        unfold kle at this
        rw [klt_not] at this
        simp only [decide_eq_true_eq]
        omega
      rw [hn]
      simp only [c, decide_false, Option.none_or]

end Go.Proofs.YtjjdkkdnlnbedaaGreat


namespace Go.Proofs.YtjjdkkdnlnbedaaGreat
open Go.RowKit

theorem Touch.low {T G B : Nat} {w a b : World} (hb : Below B w a) (h : Touch T G a b) (hT : B ≤ T) (hG : B ≤ G) (hs : B ≤ a.heap.size) : Below B w b :=
  hb.trans ⟨h.os, h.tape, h.output, h.size, fun k hk => h.block k (Nat.lt_of_lt_of_le hk hs) (by omega) (by omega)⟩

end Go.Proofs.YtjjdkkdnlnbedaaGreat


namespace Go.Proofs.YtjjdkkdnlnbedaaGreat
open Go.RowKit

/-- What a client sees of a node: its place, its turn, its key. -/
structure It where
  n : Nat
  tu : Int
  a : Int
  b : Int
def itOf (st : St) (x : Nat) : It := ⟨x, (st.nd x).turn, (st.nd x).time, (st.nd x).seq⟩
/-- The client's view of a tree: the nodes in order, and how often each place was filled. -/
def Tre (w : World) (T G P : Nat) (tf : Nat → Int) (L : List It) : Prop :=
  ∃ st t fl, Own w T G P st ∧ Inv P st t fl ∧ L = t.list.map (itOf st) ∧ ∀ x, tf x = (st.nd x).turn
theorem itOf_same {st st' : St} {x : Nat} (h : SameK (st'.nd x) (st.nd x)) : itOf st' x = itOf st x := by
  unfold itOf; rw [h.1, h.2.1, h.2.2.1]
theorem map_same {st st' : St} {l : List Nat} (h : ∀ x ∈ l, SameK (st'.nd x) (st.nd x)) : l.map (itOf st') = l.map (itOf st) :=
  List.map_congr_left fun x hx => itOf_same (h x hx)
theorem Tre.below {w w' : World} {T G P : Nat} {tf : Nat → Int} {L : List It} (h : Tre w T G P tf L) (hb : Below w.heap.size w w') : Tre w' T G P tf L := by
  obtain ⟨st, t, fl, o, i, e, f⟩ := h
  exact ⟨st, t, fl, o.below hb, i, e, f⟩
theorem Tre.lts {w : World} {T G P : Nat} {tf : Nat → Int} {L : List It} (h : Tre w T G P tf L) : T < w.heap.size ∧ G < w.heap.size ∧ T ≠ G := by
  obtain ⟨st, t, fl, o, i, e, f⟩ := h
  exact ⟨o.box.lt, o.lt, fun e => o.ne e⟩
theorem Tre.len {w : World} {T G P : Nat} {tf : Nat → Int} {L : List It} (h : Tre w T G P tf L) : L.length ≤ P := by
  obtain ⟨st, t, fl, o, i, e, f⟩ := h
  have := i.cover
  rw [e, List.length_map]; omega
theorem sh_ne0 {nd : Nat → Nd} : ∀ (t : Tr) (u : Nat), Sh nd t u → ∀ x ∈ t.list, x ≠ 0
  | .nil, _, _, x, hx => by simp [Tr.list] at hx
  | .node p l r, u, h, x, hx => by
    obtain ⟨h1, _, _, _, h5, h6⟩ := h
    rw [Tr.list, List.mem_append, List.mem_cons] at hx
    rcases hx with hx | rfl | hx
    · exact sh_ne0 l p h5 x hx
    · exact h1
    · exact sh_ne0 r p h6 x hx
theorem Tre.places {w : World} {T G P : Nat} {tf : Nat → Int} {L : List It} (h : Tre w T G P tf L) : (L.map (·.n)).Nodup ∧ ∀ y ∈ L, 1 ≤ y.n ∧ y.n ≤ P ∧ y.tu = tf y.n := by
  obtain ⟨st, t, fl, o, i, e, f⟩ := h
  have hn := i.good.z.nd
  refine ⟨?_, ?_⟩
  · rw [e, List.map_map]
    have : ((fun x : It => x.n) ∘ itOf st) = id := by funext x; rfl
    rw [this, List.map_id]
    exact hn.nt
  · intro y hy
    rw [e] at hy
    obtain ⟨x, hx, rfl⟩ := List.mem_map.1 hy
    have h0 := sh_ne0 t _ i.good.z.sh x hx
    have hb := hn.bt x hx
    exact ⟨by show 1 ≤ x; omega, hb, (f x).symm⟩
theorem tnew (P : Nat) (h1 : 1 ≤ P) (h2 : P ≤ 4096) (w : World) :
    Calls Tryz.prog 125 #[.int .i64 P] w fun e w' => ∃ T G, e = .returned (.pointer (some ⟨T, 0, none⟩)) ∧ Tre w' T G P (fun _ => 0) [] ∧ Below w.heap.size w w' ∧ w.heap.size ≤ T ∧ w.heap.size ≤ G := by
  refine (new_any P h1 h2 w).mono ?_
  rintro e w' ⟨T, G, st, rfl, o, b, hT, hG, i, tz⟩
  exact ⟨T, G, rfl, ⟨st, .nil, _, o, i, rfl, fun x => (tz x).symm⟩, b, hT, hG⟩
theorem tput (T G P : Nat) (tf : Nat → Int) (L : List It) (w : World) (h : Tre w T G P tf L) (hl : L.length < P) (ht : ∀ x, 0 ≤ tf x ∧ tf x < 1000000) (a b : Int) :
    Calls Tryz.prog 114 #[.pointer (some ⟨T, 0, none⟩), .agg #[.int .i64 a, .int .i64 b]] w fun e w' => ∃ (n : Nat) (pre post : List It), e = .returned (.tuple #[.agg #[.int .i64 n, .int .i64 (tf n + 1)], .int .i64 0]) ∧ 1 ≤ n ∧ n ≤ P ∧ (∀ y ∈ L, y.n ≠ n) ∧ L = pre ++ post ∧
      (∀ y ∈ pre, klt a b y.a y.b = false) ∧ (∀ y ∈ post, klt a b y.a y.b = true) ∧ Tre w' T G P (fun x => if x = n then tf n + 1 else tf x) (pre ++ ⟨n, tf n + 1, a, b⟩ :: post) ∧ Touch T G w w' := by
  obtain ⟨st, t, fl, o, i, rfl, f⟩ := h
  rw [List.length_map] at hl
  cases fl with
  | nil => have := i.cover; simp at this; omega
  | cons n fl =>
    have hn := i.fbd n (by simp)
    refine (put_any T G P st w o t fl n i a b (by rw [← f]; exact (ht n).1) (by rw [← f]; exact (ht n).2)).mono ?_
    rintro e w' ⟨rfl, st', t', pre, post, o', tt, i', l', l, q1, q2, k1, k2⟩
    have hne : ∀ x ∈ pre ++ post, x ≠ n := fun x hx e => hn.2.2 (by rw [l, ← e]; exact hx)
    have hp : ∀ x ∈ pre, SameK (st'.nd x) (st.nd x) := fun x hx => k2 x (hne x (by simp [hx]))
    have hq : ∀ x ∈ post, SameK (st'.nd x) (st.nd x) := fun x hx => k2 x (hne x (by simp [hx]))
    refine ⟨n, pre.map (itOf st), post.map (itOf st), by rw [f], by omega, hn.2.1, ?_, by rw [l, List.map_append], ?_, ?_, ⟨st', t', fl, o', i', ?_, ?_⟩, tt⟩
    · intro y hy
      obtain ⟨x, hx, rfl⟩ := List.mem_map.1 hy
      exact hne x (by rw [← l]; exact hx)
    · intro y hy
      obtain ⟨x, hx, rfl⟩ := List.mem_map.1 hy
      have := q1 x hx
      unfold kle at this
      rw [k1.1, k1.2.1, (hp x hx).1, (hp x hx).2.1] at this
      exact this
    · intro y hy
      obtain ⟨x, hx, rfl⟩ := List.mem_map.1 hy
      have := q2 x hx
      unfold kle at this
      rw [k1.1, k1.2.1, (hq x hx).1, (hq x hx).2.1] at this
      exact this
    · rw [l', List.map_append, List.map_cons, map_same hp, map_same hq]
      congr 2
      unfold itOf
      rw [k1.1, k1.2.1, k1.2.2.1, f]
      rfl
    · intro x
      by_cases e : x = n
      · subst e
        show (if x = x then tf x + 1 else tf x) = _
        rw [if_pos rfl, k1.2.2.1, f]; rfl
      · show (if x = n then tf n + 1 else tf x) = _
        rw [if_neg e, (k2 x e).2.2.1, f]
/-- The handle of the first one, or none. -/
def hdV : List It → Value
  | [] => .tuple #[.agg #[.int .i64 0, .int .i64 0], .bool false]
  | y :: _ => .tuple #[.agg #[.int .i64 y.n, .int .i64 y.tu], .bool true]
theorem hdl_of {P : Nat} {st : St} {t : Tr} {fl : List Nat} (i : Inv P st t fl) (B : List Nat) (hB : ∀ x ∈ B, x ∈ t.list) : hdl st (B.headD 0) = hdV (B.map (itOf st)) := by
  cases B with
  | nil => rfl
  | cons x r =>
    have h0 := sh_ne0 t _ i.good.z.sh x (hB x (by simp))
    show hdl st x = _
    unfold hdl
    rw [if_neg h0]; rfl
theorem tfirst (T G P : Nat) (tf : Nat → Int) (L : List It) (w : World) (h : Tre w T G P tf L) :
    Calls Tryz.prog 90 #[.pointer (some ⟨T, 0, none⟩)] w fun e w' => e = .returned (hdV L) ∧ Below w.heap.size w w' := by
  obtain ⟨st, t, fl, o, i, rfl, f⟩ := h
  refine (firstH_any T G P st w o t i.good.z).mono ?_
  rintro e w' ⟨rfl, hb⟩
  refine ⟨?_, hb⟩
  rw [fst_list, hdl_of i t.list (fun x hx => hx)]
theorem tdrop_out (T G P : Nat) (tf : Nat → Int) (L : List It) (w : World) (h : Tre w T G P tf L) (pl tn : Int) (hy : ∀ y ∈ L, ¬ ((y.n : Int) = pl ∧ y.tu = tn)) :
    Calls Tryz.prog 121 #[.pointer (some ⟨T, 0, none⟩), .agg #[.int .i64 pl, .int .i64 tn]] w fun e w' => e = .returned (.int .i64 7) ∧ Below w.heap.size w w' := by
  obtain ⟨st, t, fl, o, i, rfl, f⟩ := h
  refine drop_none T G P st w o pl tn ?_
  cases hh : hasB P st pl tn
  · rfl
  · obtain ⟨h1, h2, h3⟩ := (hasB_iff i _ _).1 hh
    exact absurd ⟨by show ((pl.toNat : Nat) : Int) = pl; omega, h3⟩ (hy (itOf st pl.toNat) (List.mem_map.2 ⟨_, h2, rfl⟩))
theorem tdrop_in (T G P : Nat) (tf : Nat → Int) (A B : List It) (y : It) (w : World) (h : Tre w T G P tf (A ++ y :: B)) :
    Calls Tryz.prog 121 #[.pointer (some ⟨T, 0, none⟩), .agg #[.int .i64 y.n, .int .i64 y.tu]] w fun e w' => e = .returned (.int .i64 0) ∧ Tre w' T G P tf (A ++ B) ∧ Touch T G w w' := by
  obtain ⟨st, t, fl, o, i, e, f⟩ := h
  obtain ⟨A0, R0, el, ea, er⟩ := List.map_eq_append_iff.1 e.symm
  obtain ⟨n, B0, rfl, rfl, eb⟩ := List.map_eq_cons_iff.1 er
  refine (drop_any T G P st w o t fl i n (st.nd n).turn ((hasB_iff i _ _).2 ⟨by omega, by rw [el]; simp, by simp⟩)).mono ?_
  rintro e w' ⟨rfl, st', t', A1, B1, o', tt, i', l, l', k, kt⟩
  have hnd := i.good.z.nd.nt
  rw [l] at hnd
  obtain ⟨rfl, rfl⟩ := split_unique (l.symm.trans el) hnd
  have hne : ∀ x ∈ A1 ++ B1, x ≠ n := by
    intro x hx e
    subst e
    have := List.nodup_append.1 hnd
    rcases List.mem_append.1 hx with hx | hx
    · exact this.2.2 x hx x (by simp) rfl
    · exact (List.nodup_cons.1 this.2.1).1 hx
  refine ⟨rfl, ⟨st', t', n :: fl, o', i', ?_, ?_⟩, tt⟩
  · rw [l', List.map_append, map_same (fun x hx => k x (hne x (by simp [hx]))), map_same (l := B1) (fun x hx => k x (hne x (by simp [hx]))), ea, eb]
  · intro x
    by_cases e : x = n
    · subst e; rw [kt, f]
    · rw [(k x e).2.2.1, f]
theorem tlen (T G P : Nat) (tf : Nat → Int) (L : List It) (w : World) (h : Tre w T G P tf L) :
    Calls Tryz.prog 108 #[.pointer (some ⟨T, 0, none⟩)] w fun e w' => e = .returned (.int .i64 L.length) ∧ w' = w := by
  obtain ⟨st, t, fl, o, i, rfl, f⟩ := h
  rw [List.length_map, ← i.count]
  exact len_any T G P st w o
/-- Sorted: no node is ahead of one that is ahead of it. -/
theorem Tre.srt {w : World} {T G P : Nat} {tf : Nat → Int} {L : List It} (h : Tre w T G P tf L) : L.Pairwise (fun x y => klt y.a y.b x.a x.b = false) := by
  obtain ⟨st, t, fl, o, i, rfl, f⟩ := h
  rw [List.pairwise_map]
  exact i.srt
theorem Tre.set {w : World} {T G P : Nat} {tf : Nat → Int} {L : List It} (h : Tre w T G P tf L) {k : Nat} (h1 : k ≠ T) (h2 : k ≠ G) (j : Nat) (v : Value) : Tre (w.setCell ⟨k, j, none⟩ v) T G P tf L := by
  obtain ⟨st, t, fl, o, i, e, f⟩ := h
  exact ⟨st, t, fl, o.setOther h1 h2 j v, i, e, f⟩
end Go.Proofs.YtjjdkkdnlnbedaaGreat


namespace Go.Proofs.YtjjdkkdnlnbedaaGreat
open Go.RowKit

theorem tnext (T G P : Nat) (tf : Nat → Int) (A B : List It) (y : It) (w : World) (h : Tre w T G P tf (A ++ y :: B)) :
    Calls Tryz.prog 91 #[.pointer (some ⟨T, 0, none⟩), .agg #[.int .i64 y.n, .int .i64 y.tu]] w fun e w' => e = .returned (hdV B) ∧ Below w.heap.size w w' := by
  obtain ⟨st, t, fl, o, i, e, f⟩ := h
  obtain ⟨A0, R0, el, ea, er⟩ := List.map_eq_append_iff.1 e.symm
  obtain ⟨n, B0, rfl, rfl, eb⟩ := List.map_eq_cons_iff.1 er
  obtain ⟨cx, l, r, hcx⟩ := find_cx t n (by rw [el]; simp)
  have hz : Z P st cx (.node n l r) := by rw [z_top, ← hcx]; exact i.good.z
  have hl := el
  have hnd := i.good.z.nd.nt
  rw [hcx, plug_pp, show cx.pre ++ ((Tr.node n l r).list ++ cx.post) = (cx.pre ++ l.list) ++ n :: (r.list ++ cx.post) by simp [Tr.list]] at hl
  rw [el] at hnd
  have hB := (split_unique hl (by rw [hl]; exact hnd)).2
  refine (nextH_any T G P st w o cx n l r hz (st.nd n).turn ((hasB_iff i _ _).2 ⟨by omega, by rw [el]; simp, by simp⟩)).mono ?_
  rintro e w' ⟨rfl, hb⟩
  refine ⟨?_, hb⟩
  rw [nextOf_head, hB, hdl_of i B0 (fun x hx => by rw [el]; simp [hx]), eb]
/-- What a handle's box holds. -/
theorem hdV_cases (B : List It) : ∃ (u v : Int) (o : Bool), hdV B = .tuple #[.agg #[.int .i64 u, .int .i64 v], .bool o] ∧ ((B = [] ∧ o = false) ∨ ∃ y R, B = y :: R ∧ o = true ∧ u = y.n ∧ v = y.tu) := by
  cases B with
  | nil => exact ⟨0, 0, false, rfl, .inl ⟨rfl, rfl⟩⟩
  | cons y R => exact ⟨y.n, y.tu, true, rfl, .inr ⟨y, R, rfl, rfl, rfl, rfl⟩⟩
def cntB (tm : Int) (L : List It) : Nat := (L.filter (fun y => decide (y.a < tm))).length
theorem cnt_put (tm : Int) (pre post : List It) (x : It) : cntB tm (pre ++ x :: post) = cntB tm (pre ++ post) + (if x.a < tm then 1 else 0) := by
  unfold cntB
  rw [List.filter_append, List.filter_append, List.filter_cons]
  by_cases h : x.a < tm
  · rw [decide_eq_true h, if_pos rfl, if_pos h]; simp only [List.length_append, List.length_cons]; omega
  · rw [decide_eq_false h, if_neg (by decide), if_neg h]; simp
theorem cnt_le (tm : Int) (L : List It) : cntB tm L ≤ L.length := List.length_filter_le _ _
theorem at_split (tm : Int) (L : List It) (hs : L.Pairwise (fun x y => klt y.a y.b x.a x.b = false)) : ∃ A R, L = A ++ R ∧ (L.find? (fun y => decide (tm ≤ y.a))).toList.head? = R.head? ∧ A.length = cntB tm L ∧ ∀ y ∈ R, tm ≤ y.a := by
  cases hf : L.find? (fun y => decide (tm ≤ y.a)) with
  | none =>
    refine ⟨L, [], by simp, rfl, ?_, by simp⟩
    have h := List.find?_eq_none.1 hf
    unfold cntB
    rw [List.filter_eq_self.2]
    intro y hy
    have := h y hy
    simp only [decide_eq_true_eq] at this ⊢
    omega
  | some y =>
    obtain ⟨hy, A, R, rfl, hA⟩ := List.find?_eq_some_iff_append.1 hf
    have hy' : tm ≤ y.a := by simpa using hy
    have hR : ∀ z ∈ R, tm ≤ z.a := by
      intro z hz
      have := (List.pairwise_append.1 hs).2.1
      have h2 := (List.pairwise_cons.1 this).1 z hz
      rcases klt_not.1 h2 with h3 | h3 <;> omega
    refine ⟨A, y :: R, rfl, rfl, ?_, ?_⟩
    · unfold cntB
      rw [List.filter_append, List.filter_cons, decide_eq_false (show ¬ y.a < tm by omega), if_neg (by decide)]
      have e1 : A.filter (fun y => decide (y.a < tm)) = A := by
        rw [List.filter_eq_self]
        intro z hz
        have := hA z hz
        simp only [Bool.not_eq_true', decide_eq_false_iff_not, decide_eq_true_eq] at this ⊢
        omega
      have e2 : R.filter (fun y => decide (y.a < tm)) = [] := by
        rw [List.filter_eq_nil_iff]
        intro z hz
        have := hR z hz
        simp only [decide_eq_true_eq]; omega
      rw [e1, e2, List.append_nil]
    · intro z hz
      rcases List.mem_cons.1 hz with rfl | hz
      · exact hy'
      · exact hR z hz
end Go.Proofs.YtjjdkkdnlnbedaaGreat

