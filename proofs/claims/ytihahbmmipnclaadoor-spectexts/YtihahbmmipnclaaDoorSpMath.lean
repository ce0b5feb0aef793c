import Derived.Test.YtihahbmmipnclaaDoorSp7
namespace Go.Proofs.YtihahbmmipnclaaDoor
open Go.RowKit Kt Dg

/-- A text that tells a spec: its parts. -/
structure Parts (s : ByteArray) (a b : List UInt8) : Prop where
  eq : s.data.toList = a ++ 46 :: b
  free : ∀ c ∈ a, c ≠ 46
  short : a.length ≤ 18
  nine : b.length = 9
  bare : padB a = false
  numA : numOk a = true
  numB : numOk b = true
theorem split_unique {a b c d : List UInt8} (h : a ++ 46 :: b = c ++ 46 :: d) (ha : ∀ x ∈ a, x ≠ 46) (hc : ∀ x ∈ c, x ≠ 46) : a = c ∧ b = d := by
  have e1 := cut_point a b ha
  have e2 := cut_point c d hc
  rw [h, e2] at e1
  simp only [Prod.mk.injEq, and_true] at e1
  exact ⟨e1.1.symm, e1.2.symm⟩
theorem numOk_some {l : List UInt8} (h : numOk l = true) : l ≠ [] ∧ ∃ v, numL l 0 = some v ∧ numV l = (v : Int) := by
  unfold numOk at h
  rw [Bool.and_eq_true] at h
  refine ⟨by intro e; rw [e] at h; simp at h, ?_⟩
  obtain ⟨v, hv⟩ := Option.isSome_iff_exists.1 h.1
  exact ⟨v, hv, by unfold numV; rw [hv]⟩
theorem numOk_of {l : List UInt8} {v : Nat} (h : numL l 0 = some v) (hne : l ≠ []) : numOk l = true := by
  unfold numOk
  rw [h]
  cases l with
  | nil => exact absurd rfl hne
  | cons c r => rfl
theorem numV_of {l : List UInt8} {v : Nat} (h : numL l 0 = some v) : numV l = (v : Int) := by unfold numV; rw [h]
theorem rnumV_of {l : List UInt8} {v : Nat} (h : numL l 0 = some v) (hne : l ≠ []) (hl : l.length ≤ 18) : rnumV l = (v : Int) := by
  unfold rnumV
  rw [if_neg (by intro h; rcases h with h | h; exact hne h; omega), h]
theorem rnumV_pos {l : List UInt8} (h : 0 ≤ rnumV l) : l ≠ [] ∧ l.length ≤ 18 ∧ ∃ v, numL l 0 = some v ∧ rnumV l = (v : Int) := by
  unfold rnumV at h ⊢
  by_cases hc : l = [] ∨ 18 < l.length
  · rw [if_pos hc] at h; omega
  · rw [if_neg hc] at h ⊢
    cases hn : numL l 0 with
    | none => rw [hn] at h; simp at h
    | some v => exact ⟨fun e => hc (.inl e), by omega, v, rfl, rfl⟩
theorem numL_free : ∀ (l : List UInt8) (a v : Nat), numL l a = some v → ∀ c ∈ l, c ≠ 46
  | [], _, _, _, c, hc => by cases hc
  | x :: r, a, v, h, c, hc => by
    rw [numL] at h
    split at h
    · rename_i hx
      rcases List.mem_cons.1 hc with rfl | hc
      · intro e; rw [e] at hx; exact absurd hx.1 (by decide)
      · exact numL_free r _ v h c hc
    · cases h
theorem padB_dec (v : Nat) : padB (Lib.decDigits v) = false := by
  unfold padB
  rcases dec_head v with h | h
  · rw [h]; rfl
  · rw [Bool.and_eq_false_iff]; right
    rw [beq_eq_false_iff_ne]; exact h
theorem padB_false {l : List UInt8} (h : padB l = false) (hne : l ≠ []) : l.length = 1 ∨ l.head? ≠ some 48 := by
  unfold padB at h
  rw [Bool.and_eq_false_iff] at h
  rcases h with h | h
  · left
    have := List.length_pos_iff.2 hne
    simp only [decide_eq_false_iff_not] at h
    omega
  · right; rwa [beq_eq_false_iff_ne] at h
theorem ahead (s : ByteArray) (a b : List UInt8) (h : s.data.toList = a ++ 46 :: b) : (s.extract 0 a.length).data.toList = a ∧ (s.extract (a.length + 1) s.size).data.toList = b := by
  have hz : s.size = a.length + 1 + b.length := by
    have : s.data.toList.length = s.size := by simp
    rw [← this, h]; simp; omega
  rw [Lib.extract_data, Lib.extract_data, h]
  constructor
  · simp
  · rw [hz]
    have : (a ++ 46 :: b).drop (a.length + 1) = b := by
      rw [show a ++ 46 :: b = (a ++ [46]) ++ b by simp, List.drop_append_of_le_length (by simp), List.drop_eq_nil_of_le (by simp)]; simp
    rw [this]
    simp only [Nat.add_sub_cancel_left, List.take_length]
/-- The document finds just what has parts. -/
theorem fnd_of_parts {s : ByteArray} {a b : List UInt8} (p : Parts s a b) : Fnd s a.length ∧ anZ s a.length = numV a ∧ bnZ s a.length = numV b := by
  obtain ⟨ea, eb⟩ := ahead s a b p.eq
  obtain ⟨na, v, hv, vv⟩ := numOk_some p.numA
  obtain ⟨nb, u, hu, uu⟩ := numOk_some p.numB
  have A1 : anZ s a.length = (v : Int) := by unfold anZ rnS; rw [ea]; exact rnumV_of hv na p.short
  have B1 : bnZ s a.length = (u : Int) := by unfold bnZ rnS; rw [eb]; exact rnumV_of hu nb (by have := p.nine; omega)
  obtain ⟨pb, hub⟩ := numL_some 9 b u p.nine hu
  have h9 : (10 : Nat) ^ 9 = 1000000000 := by decide
  refine ⟨⟨by rw [p.eq]; simp, ?_, ?_⟩, by rw [A1, vv], by rw [B1, uu]⟩
  · rw [A1, B1]; simp [rightB]; omega
  · rw [A1, B1]
    apply ByteArray.ext
    rw [← Array.toList_inj, p.eq]
    have d1 := dec_of_num a v na (padB_false p.bare na) hv
    show (textL (v : Int).toNat (u : Int).toNat).toArray.toList = _
    simp only [Int.toNat_natCast, textL]
    rw [d1, ← pb]
theorem parts_of_fnd {s : ByteArray} {i : Nat} (h : Fnd s i) : ∃ a b, Parts s a b ∧ i = a.length := by
  obtain ⟨h1, h2, h3⟩ := h
  have hr := rightB_true h2
  obtain ⟨na, la, v, hv, vv⟩ := rnumV_pos (l := (s.extract 0 i).data.toList) hr.1
  obtain ⟨nb, lb, u, hu, uu⟩ := rnumV_pos (l := (s.extract (i + 1) s.size).data.toList) hr.2.1
  have vv' : anZ s i = (v : Int) := vv
  have uu' : bnZ s i = (u : Int) := uu
  rw [uu'] at hr
  have h9 : (10 : Nat) ^ 9 = 1000000000 := by decide
  have hsl : s.data.toList = Lib.decDigits v ++ 46 :: padTo 9 u := by
    have := congrArg (fun x : ByteArray => x.data.toList) h3
    rw [← this, vv', uu']
    simp [textS, textL]
  have fr : ∀ c ∈ Lib.decDigits v, c ≠ 46 := numL_free _ _ _ (numL_dec v)
  have nb' : padTo 9 u ≠ [] := by intro e; have := padTo_length 9 u; rw [e] at this; simp at this
  have hi : i < s.data.toList.length := by
    by_cases hlt : i < s.data.toList.length
    · exact hlt
    · rw [List.getElem?_eq_none (by omega)] at h1; cases h1
  have hsplit : s.data.toList = s.data.toList.take i ++ 46 :: s.data.toList.drop (i + 1) := by
    have hd : s.data.toList.drop i = s.data.toList[i] :: s.data.toList.drop (i + 1) := List.drop_eq_getElem_cons hi
    have hb : s.data.toList[i] = 46 := by rw [List.getElem?_eq_getElem hi] at h1; simpa using h1
    rw [hb] at hd
    rw [← hd, List.take_append_drop]
  have ea : (s.extract 0 i).data.toList = s.data.toList.take i := by rw [Lib.extract_data]; simp
  have frA : ∀ c ∈ s.data.toList.take i, c ≠ 46 := by rw [← ea]; exact numL_free _ _ _ hv
  have hu2 := split_unique (hsplit.symm.trans hsl) frA fr
  have hlen : (Lib.decDigits v).length ≤ 18 := by rw [← hu2.1, ← ea]; exact la
  refine ⟨Lib.decDigits v, padTo 9 u, ⟨hsl, fr, hlen, padTo_length 9 u, padB_dec v, numOk_of (numL_dec v) (dec_ne v), numOk_of (numL_padTo 9 u (by omega)) nb'⟩, ?_⟩
  rw [← hu2.1, List.length_take]; omega
theorem parts_unique {s : ByteArray} {a b c d : List UInt8} (p : Parts s a b) (q : Parts s c d) : a = c ∧ b = d :=
  split_unique (p.eq.symm.trans q.eq) p.free q.free
/-- The text of a spec with a Sec of at most 18 digits has parts. -/
theorem parts_text (s n : Int) (h0 : 0 ≤ s) (h1 : s < 1000000000000000000) (h2 : 0 ≤ n) (h3 : n ≤ 999999999) : ∃ a b, Parts (textS s n) a b ∧ numV a = s ∧ numV b = n := by
  have h9 : (10 : Nat) ^ 9 = 1000000000 := by decide
  have h18 : (10 : Nat) ^ (17 + 1) = 1000000000000000000 := by decide
  have nb' : padTo 9 n.toNat ≠ [] := by intro e; have := padTo_length 9 n.toNat; rw [e] at this; simp at this
  have hp : numL (padTo 9 n.toNat) 0 = some n.toNat := numL_padTo 9 _ (by omega)
  refine ⟨Lib.decDigits s.toNat, padTo 9 n.toNat, ⟨by simp [textS, textL], numL_free _ _ _ (numL_dec _), dec_length_le 17 _ (by omega), padTo_length _ _, padB_dec _, numOk_of (numL_dec _) (dec_ne _), numOk_of hp nb'⟩, ?_, ?_⟩
  · rw [numV_of (numL_dec _)]; omega
  · rw [numV_of hp]; omega

theorem sparse_parts (s : ByteArray) (a b : List UInt8) (w : World) (hw : Bnd w) (hs : s.size < 4294967281) (p : Parts s a b) :
    Calls Tryd.prog 14 #[.string s] w fun e w' => e = .returned (.tuple #[.agg #[.int .i64 (numV a), .int .i64 (numV b)], .bool true]) ∧ Below w.heap.size w w' := by
  have h := sparse_yes s ⟨a.toArray⟩ ⟨b.toArray⟩ true w hw hs (by rw [p.eq, cut_point a b p.free]) (by simpa [ByteArray.size] using p.short) (by simpa [ByteArray.size] using p.nine) (by simpa using p.bare) (by simpa using p.numA) (by simpa using p.numB)
  simpa using h
theorem sparse_none (s : ByteArray) (w : World) (hw : Bnd w) (hs : s.size < 4294967281) (p : ∀ a b, ¬ Parts s a b) :
    Calls Tryd.prog 14 #[.string s] w fun e w' => e = .returned (.tuple #[.agg #[.int .i64 0, .int .i64 0], .bool false]) ∧ Below w.heap.size w w' := by
  have hz : s.data.toList.length = s.size := by simp
  rcases split_point s.data.toList with h | ⟨a, b, e, h⟩
  · exact sparse_no s s ⟨#[]⟩ false w hw hs (cut_none _ h) (Nat.le_refl _) (Nat.zero_le _) (.inr (.inl (by decide)))
  · have hl : a.length + 1 + b.length = s.size := by rw [← hz, e, List.length_append, List.length_cons]; omega
    have s1 : (⟨a.toArray⟩ : ByteArray).size = a.length := by simp [ByteArray.size]
    have s2 : (⟨b.toArray⟩ : ByteArray).size = b.length := by simp [ByteArray.size]
    refine sparse_no s ⟨a.toArray⟩ ⟨b.toArray⟩ true w hw hs (by rw [e, cut_point a b h]) (by omega) (by omega) ?_
    rw [s1, s2]
    show 18 < a.length ∨ b.length ≠ 9 ∨ padB a = true ∨ numOk a = false ∨ numOk b = false
    by_cases c1 : 18 < a.length
    · exact .inl c1
    by_cases c2 : b.length = 9
    · cases c3 : padB a
      · cases c4 : numOk a
        · simp
        · cases c5 : numOk b
          · simp
          · exact absurd ⟨e, h, by omega, c2, c3, c4, c5⟩ (p a b)
      · simp
    · exact .inr (.inl c2)
end Go.Proofs.YtihahbmmipnclaaDoor
