import Derived.Test.YtpkadbjgkoijiaaL6Hs
namespace Go.Proofs.Ytpkadbjgkoijiaa
open Go.RowKit

theorem kInfo : (Try.prog.info? 38).map (fun i => (i.zero, i.size, i.bytes)) = some (some (.agg #[.int .i64 0, .int .i64 0]), 2, 16) := by kernel_rfl
theorem kparts {i : Option TypeInfo} {z : Value} {s b : Nat} (h : i.map (fun i => (i.zero, i.size, i.bytes)) = some (some z, s, b)) : ∃ i0, i = some i0 ∧ i0.zero = some z ∧ i0.size = s ∧ i0.bytes = b := by
  cases i with
  | none => cases h
  | some i0 =>
    simp only [Option.map_some, Option.some.injEq, Prod.mk.injEq] at h
    exact ⟨i0, rfl, h.1, h.2.1, h.2.2⟩
def kzeros (n : Nat) : Array Value := madeCells #[.int .i64 0, .int .i64 0] (n * 2)
theorem make_keys (w : World) (n : Nat) (hn : n ≤ 4097) :
    (Instr.makeSlice 33 (.int .i64 0) (.int .i64 (n : Int))).run Try.prog w = .ok (.slice (some ⟨w.heap.size, 0, none⟩) 0 n) (w.alloc (.cells (kzeros n) 38)) := by
  obtain ⟨i, h, h1, h2, h3⟩ := kparts kInfo
  have := run_make (P := Try.prog) w 33 38 i _ Try.underlying33 h h1 .i64 .i64 0 n (by omega) (by omega) (by rw [h3]; omega) (by omega)
  rw [h2] at this
  exact this
/-- The keys' cells. -/
def krow : List It → List Value
  | [] => []
  | y :: l => .int .i64 y.a :: .int .i64 y.b :: krow l
theorem krow_len : ∀ l, (krow l).length = l.length * 2
  | [] => rfl
  | y :: l => by rw [krow, List.length_cons, List.length_cons, krow_len l, List.length_cons]; omega
theorem krow_snoc : ∀ (l : List It) (y : It), krow (l ++ [y]) = krow l ++ [.int .i64 y.a, .int .i64 y.b]
  | [], y => rfl
  | x :: l, y => by rw [List.cons_append, krow, krow_snoc l y, krow]; rfl
theorem Own.grown {w w' : World} {T G P : Nat} {st : St} {row : Option Nat} (o : Own w T G P st) (hg : w.grownBy w' row) (hT : some T ≠ row) (hG : some G ≠ row) : Own w' T G P st := by
  refine ⟨o.hP, o.ne, o.box.grown hg hT, ⟨?_, ?_⟩, Nat.lt_of_lt_of_le o.lt hg.size⟩
  · intro p hp k hk
    rw [World.cell?_of_block (a := ⟨G, p * 8 + k, none⟩) (hg.block G o.lt hG)]; exact o.nod.cell p hp k hk
  · intro j
    rw [World.frozen?_of_block (a := ⟨G, j, none⟩) (hg.block G o.lt hG)]; exact o.nod.free j
theorem kzeros_size (n : Nat) : (kzeros n).size = n * 2 := by unfold kzeros madeCells; simp
theorem drew_row {w : World} {C : Nat} {e : TypeId} {size : Nat} {v : Value} {n : Nat} {xs : List Value} (h : w.ownsRow C e size v n xs) (m : Nat) : (w.drewN m).ownsRow C e size v n xs := row_keep h (fun _ _ _ => rfl)
theorem drew_below (w : World) (m : Nat) : Below w.heap.size w (w.drewN m) := ⟨rfl, rfl, rfl, Nat.le_refl _, fun _ _ => rfl⟩
set_option maxRecDepth 100000 in
set_option maxHeartbeats 4000000 in
theorem keys_any (T G P : Nat) (st : St) (w : World) (h : Own w T G P st) (t : Tr) (fl : List Nat) (i : Inv P st t fl) :
    Calls Try.prog 9 #[.pointer (some ⟨T, 0, none⟩)] w fun e w' => ∃ v, e = .returned v ∧ w'.ownsRow w.heap.size 38 2 v t.list.length (krow (t.list.map (itOf st))) ∧ Below w.heap.size w w' := by
  have hP := h.hP
  have hcov := i.cover
  have cc := h.count
  rw [i.count] at cc
  have cr := h.root
  rw [show st.root = t.root from i.good.z.root] at cr
  have hmk := make_keys w t.list.length (by omega)
  obtain ⟨B, hB⟩ : ∃ B, w.heap.size = B := ⟨_, rfl⟩
  have hT : T < B := by rw [← hB]; exact h.box.lt
  have hG : G < B := by rw [← hB]; exact h.lt
  obtain ⟨W1, hW1⟩ : ∃ W1, W1 = w.alloc (.cells (kzeros t.list.length) 38) := ⟨_, rfl⟩
  have b1 : Below B w W1 := by rw [hW1, ← hB]; exact one_below _ _
  have o1 : Own W1 T G P st := h.below (by rw [hB]; exact b1)
  have r1 : W1.ownsRow B 38 2 (.slice (some ⟨B, 0, none⟩) 0 t.list.length) 0 [] := by
    rw [hW1, ← hB]; exact World.ownsRow_made w (kzeros t.list.length) t.list.length (Nat.le_refl _) (by unfold maxLen; omega) (kzeros_size _)
  have cr1 := o1.root
  rw [show st.root = t.root from i.good.z.root] at cr1
  have CF := hide (first_any T G P st W1 o1 t 0 i.good.z.sh i.good.z.bdt)
  rw [hB] at hmk
  rw [← hW1] at hmk
  have H1 := hide (And.intro o1 (And.intro b1 r1))
  have HI := hide i
  clear o1 b1 r1 h hW1
  generalize hLL : t.list.length = N at *
  go_enter Try.func9, Try.ntmps9
  go_wp2_with (go_at_call 17; refine Hid.out ?_)
  refine hide ?_
  refine (unhide CF).mono ?_
  rintro e w2 ⟨rfl, m2, rfl⟩
  obtain ⟨o1, b1, r1⟩ := unhide H1
  have H2 : Hid (Own (W1.drewN m2) T G P st ∧ (W1.drewN m2).ownsRow B 38 2 (.slice (some ⟨B, 0, none⟩) 0 N) 0 [] ∧ Below B w (W1.drewN m2)) := hide ⟨o1.drew m2, drew_row r1 m2, b1.trans ((drew_below W1 m2).mono (by have := b1.size; omega))⟩
  clear o1 b1 r1 H1 CF cr1 cc cr
  rw [fst_list]
  go_wp2_with fail
  go_loopw [3, 4] (fun s3 s4 w' => ∃ (A R : List Nat), s4 = .int .i64 (R.headD 0 : Nat) ∧ Hid (t.list = A ++ R ∧ Own w' T G P st ∧ w'.ownsRow B 38 2 s3 A.length (krow (A.map (itOf st))) ∧ Below B w w')) (fun s3 _ _ => N - (match s3 with | .slice _ l _ => l | _ => 0))
  case atStart => exact ⟨[], t.list, by simp, hide ⟨rfl, (unhide H2).1, (unhide H2).2.1, (unhide H2).2.2⟩⟩
  case round =>
    obtain ⟨A, R, rfl, HJ⟩ := hrel
    obtain ⟨hl, o, row, bl⟩ := unhide HJ
    have hform : ∃ a cap, u3 = .slice a A.length cap := by
      rcases row.2 with ⟨e, e2⟩ | ⟨g, cap, cur, e, _⟩
      · rw [e2]; exact ⟨none, 0, e⟩
      · exact ⟨_, cap, e⟩
    obtain ⟨ra, rcap, rfl⟩ := hform
    cases R with
    | nil =>
      rw [List.append_nil] at hl
      have HF := hide (And.intro hl (And.intro row bl))
      clear hl o row bl HJ H2
      rw [show ((([] : List Nat).headD 0 : Nat) : Int) = 0 from rfl]
      go_wp2_with fail
      go_ret
      obtain ⟨hl, row, bl⟩ := unhide HF
      refine ⟨_, rfl, ?_, by rw [hB]; exact bl⟩
      rw [hB, ← hLL, hl]
      exact row
    | cons n R =>
      have ii := unhide HI
      have hn : n ∈ t.list := by rw [hl]; simp
      have hnP := ii.good.z.nd.bt n hn
      have hn0 := sh_ne0 t _ ii.good.z.sh n hn
      obtain ⟨cx, l, r, hcx⟩ := find_cx t n hn
      have hz : Z P st cx (.node n l r) := by rw [z_top, ← hcx]; exact ii.good.z
      have hnx : nextOf cx r = R.headD 0 := by
        have hl2 := hl
        have hnd := ii.good.z.nd.nt
        rw [hcx, plug_pp, show cx.pre ++ ((Tr.node n l r).list ++ cx.post) = (cx.pre ++ l.list) ++ n :: (r.list ++ cx.post) by simp [Tr.list]] at hl2
        rw [hl] at hnd
        rw [nextOf_head, (split_unique hl2 (by rw [hl2]; exact hnd)).2]
      have hAN : A.length < N := by rw [← hLL, hl, List.length_append, List.length_cons]; omega
      obtain ⟨i0, hi0, hz0, hz1, hz2⟩ := kparts kInfo
      have c0 := o.slice
      obtain ⟨c1, c2, _⟩ := o.at n hnP
      obtain ⟨gg, hgg⟩ : ∃ x, wr.heap.size = x := ⟨_, rfl⟩
      have hBg : B ≤ gg := by have := bl.size; omega
      have hnn : (((n : Nat) : Int) == 0) = false := by rw [beq_eq_false_iff_ne]; omega
      rw [show (((n :: R : List Nat).headD 0 : Nat) : Int) = (n : Int) from rfl]
      have H4 := hide (And.intro hl (And.intro o (And.intro row (And.intro bl (And.intro hz hnx)))))
      have hN4 : N ≤ 4096 := by omega
      clear hl o row bl hz hnx HJ H2 hcx hn
      generalize hta : (st.nd n).time = ta at *
      generalize hsa : (st.nd n).seq = sa at *
      go_wp2_with (at_builtin; refine wpList_append_own _ rfl _ _ 33 rfl B 38 i0 (.agg #[.int .i64 0, .int .i64 0]) 2 16 Try.underlying33 hi0 hz0 hz1 hz2 rfl (by decide) _ _ _ rfl ((unhide H4).2.2.1.alloc _) ⟨gg, 0, none⟩ 1 1 [.int .i64 ta, .int .i64 sa] rfl ?c0 ?c1 ?c2 ?c3 ?c4 ?c5 ?_)
      case c0 => rfl
      case c1 =>
        intro x u hu
        rw [add0, (Blk.new_at wr 38 #[.int .i64 ta, .int .i64 sa] hgg.symm).cell]
        simpa using hu
      case c2 =>
        intro u hu
        simp only [List.mem_cons, List.not_mem_nil, or_false] at hu
        rcases hu with rfl | rfl <;> rfl
      case c3 => unfold maxLen; omega
      case c4 => omega
      case c5 => simp; omega
      intro v' w9 hown9 hgrow hnil
      obtain ⟨hl, o, row, bl, hz, hnx⟩ := unhide H4
      have hne : ∀ j, j < B → some j ≠ (Value.slice ra A.length rcap).ownBlock := fun j hj e => by have := (row.lt j e.symm).1; omega
      have o9 := (o.below (one_below wr (.cells #[.int .i64 ta, .int .i64 sa] 38))).grown hgrow (hne T hT) (hne G hG)
      have bl9 : Below B w w9 := (bl.trans ((one_below wr (.cells #[.int .i64 ta, .int .i64 sa] 38)).mono (by omega))).grown hgrow (by simp; omega) (fun j hj => (row.lt j hj).1)
      have r9 : w9.ownsRow B 38 2 v' (A ++ [n]).length (krow ((A ++ [n]).map (itOf st))) := by
        rw [List.map_append, List.map_cons, List.map_nil, krow_snoc, List.length_append]
        show w9.ownsRow B 38 2 v' (A.length + 1) (krow (A.map (itOf st)) ++ [.int .i64 (st.nd n).time, .int .i64 (st.nd n).seq])
        rw [hta, hsa]; exact hown9
      have hform : ∃ a cap, v' = .slice a (A.length + 1) cap := by
        rcases hown9.2 with ⟨e, e2⟩ | ⟨g, cap, cur, e, _⟩
        · omega
        · exact ⟨_, cap, e⟩
      obtain ⟨ra2, rcap2, rfl⟩ := hform
      have CX := hide (next_any T G P st w9 o9 cx n l r hz)
      rw [hnx] at CX
      have H9 := hide (And.intro hl (And.intro o9 (And.intro r9 bl9)))
      clear hl o row bl hz hnx hne o9 bl9 r9 hown9 hgrow hnil H4 c0 c1 c2
      go_wp2_with (go_at_call 20; refine Hid.out ?_)
      refine hide ?_
      refine (unhide CX).mono ?_
      rintro e w10 ⟨rfl, m, rfl⟩
      go_wp2_with fail
      go_roundw
      case rel =>
        obtain ⟨hl, o9, r9, bl9⟩ := unhide H9
        exact ⟨A ++ [n], R, by simp, hide ⟨by rw [hl, List.append_assoc]; rfl, o9.drew m, drew_row r9 m, bl9.trans ((drew_below w9 m).mono (by have := bl9.size; omega))⟩⟩
      case measure => show N - (A.length + 1) < N - A.length; omega
end Go.Proofs.Ytpkadbjgkoijiaa
