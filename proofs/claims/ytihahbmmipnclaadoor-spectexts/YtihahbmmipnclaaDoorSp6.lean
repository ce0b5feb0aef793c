import Derived.Test.YtihahbmmipnclaaDoorSp5
namespace Go.Proofs.YtihahbmmipnclaaDoor
open Go.RowKit Kt Dg

/-- The library's bound holds some number. -/
def Bnd (w : World) : Prop := 0 < w.heap.size ∧ 0 < w.heap.size ∧ ∃ m, w.cell? ⟨0, 0, none⟩ = some (.int .i64 m)
theorem Bnd.on {w w' : World} (h : Bnd w) (hb : Below w.heap.size w w') : Bnd w' := by
  obtain ⟨h0, h1, m, hm⟩ := h
  have := hb.size
  exact ⟨by omega, by omega, m, by rw [hb.cell (p := ⟨0, 0, none⟩) h1]; exact hm⟩
theorem cut_any (s A B : ByteArray) (ok : Bool) (w : World) (hw : Bnd w) (hs : s.size < 4294967281) (hc : Lib.cut s.data.toList [46] = (A.data.toList, B.data.toList, ok)) :
    Calls Tryd.prog 26 #[.string s, .string ⟨#[46]⟩] w fun e w' => e = .returned (.tuple #[.string A, .string B, .bool ok]) ∧ Below w.heap.size w w' := by
  obtain ⟨_, _, m, hm⟩ := hw
  refine (Tryd.strings_Cut s ⟨#[46]⟩ m w hs hm).mono ?_
  rintro e w' ⟨rfl, n, rfl⟩
  refine ⟨?_, below_drewN (Below.refl _ _) n⟩
  rw [show (⟨#[46]⟩ : ByteArray).data.toList = [46] from rfl, hc]

theorem below_put2 {w w1 : World} (h : Below w.heap.size w w1) (a b : Value) : Below w.heap.size w ((w1.setCell ⟨w.heap.size, 0, none⟩ a).setCell ⟨w.heap.size, 1, none⟩ b) :=
  (h.setCell (p := ⟨w.heap.size, 0, none⟩) (Nat.le_refl _) _).setCell (p := ⟨w.heap.size, 1, none⟩) (Nat.le_refl _) _

set_option maxHeartbeats 1000000 in
theorem sparse_no (s A B : ByteArray) (ok : Bool) (w : World) (hw : Bnd w) (hs : s.size < 4294967281) (hc : Lib.cut s.data.toList [46] = (A.data.toList, B.data.toList, ok))
    (_hA : A.size ≤ s.size) (_hB : B.size ≤ s.size) (h : 18 < A.size ∨ B.size ≠ 9 ∨ padB A.data.toList = true ∨ numOk A.data.toList = false ∨ numOk B.data.toList = false) :
    Calls Tryd.prog 14 #[.string s] w fun e w' => e = .returned (.tuple #[.agg #[.int .i64 0, .int .i64 0], .bool false]) ∧ Below w.heap.size w w' := by
  have hb0 : Below w.heap.size w (w.alloc (.cells #[.int .i64 0, .int .i64 0] 23)) := (Below.refl _ _).alloc (Nat.le_refl _) _
  have hcut := hide (cut_any s A B ok _ (hw.on hb0) hs hc)
  clear hc
  have hc5 : 18 < A.size ∨ (A.size ≤ 18 ∧ B.size ≠ 9) ∨ (A.size ≤ 18 ∧ B.size = 9 ∧ padB A.data.toList = true) ∨ (A.size ≤ 18 ∧ B.size = 9 ∧ padB A.data.toList = false ∧ numOk A.data.toList = false) ∨ (A.size ≤ 18 ∧ B.size = 9 ∧ padB A.data.toList = false ∧ numOk A.data.toList = true ∧ numOk B.data.toList = false) := by
    by_cases h1 : 18 < A.size
    · exact .inl h1
    by_cases h2 : B.size = 9
    · cases h3 : padB A.data.toList
      · cases h4 : numOk A.data.toList
        · exact .inr (.inr (.inr (.inl ⟨by omega, h2, rfl, rfl⟩)))
        · exact .inr (.inr (.inr (.inr ⟨by omega, h2, rfl, rfl, by simpa [h1, h2, h3, h4] using h⟩)))
      · exact .inr (.inr (.inl ⟨by omega, h2, rfl⟩))
    · exact .inr (.inl ⟨by omega, h2⟩)
  clear h
  go_enter Tryd.func14, Tryd.ntmps14
  go_wp2_with (go_at_call 26; refine Hid.out ?_)
  refine hide ?_
  refine (unhide hcut).mono ?_
  rintro e w1 ⟨rfl, hb1⟩
  obtain ⟨hc, hf⟩ := bcell hb1
  have hbw := hb0.trans (hb1.mono (by simp))
  have hz1 : w.heap.size < w1.heap.size := by have := hb1.size; simp only [World.size_alloc] at this; omega
  rcases hc5 with h | ⟨h1, h⟩ | ⟨h1, h2, h3⟩ | ⟨h1, h2, h3, h4⟩ | ⟨h1, h2, h3, h4, h5⟩
  · go_wp2_with fail
    exact bodyPost_ret (v := .tuple #[.agg #[.int .i64 0, .int .i64 0], .bool false]) (by simp [results, Tryd.results14, go_sem, hc]) rfl ⟨rfl, below_put2 hbw _ _⟩
  · have hB9 : ((B.size : Int) == 9) = false := by simp; omega
    go_wp2_with fail
    exact bodyPost_ret (v := .tuple #[.agg #[.int .i64 0, .int .i64 0], .bool false]) (by simp [results, Tryd.results14, go_sem, hc]) rfl ⟨rfl, below_put2 hbw _ _⟩
  · have hB9 : 9 ≤ B.size := by omega
    have hB9' : B.size ≤ 9 := by omega
    clear h2
    go_wp2_with (go_at_call 27; refine (spadded_any _ _ (by omega)).mono ?_; rintro e w' ⟨rfl, hw'⟩; subst hw')
    exact bodyPost_ret (v := .tuple #[.agg #[.int .i64 0, .int .i64 0], .bool false]) (by simp [results, Tryd.results14, go_sem, hc]) rfl ⟨rfl, below_put2 hbw _ _⟩
  · have hB9 : 9 ≤ B.size := by omega
    have hB9' : B.size ≤ 9 := by omega
    clear h2
    go_wp2_with (first | (go_at_call 27; refine (spadded_any _ _ (by omega)).mono ?_; rintro e w' ⟨rfl, hw'⟩; subst hw') | (go_at_call 28; refine Hid.out ?_))
    refine hide ?_
    refine (snumber_any A _ h1).mono ?_
    rintro e w2 ⟨rfl, hb2⟩
    obtain ⟨hc2, hf2⟩ := bcell hb2
    go_wp2_with fail
    exact bodyPost_ret (v := .tuple #[.agg #[.int .i64 0, .int .i64 0], .bool false]) (by simp [results, Tryd.results14, go_sem, hc, hc2, hz1]) rfl ⟨rfl, below_put2 (hbw.trans (hb2.mono (by omega))) _ _⟩
  · have hB9 : 9 ≤ B.size := by omega
    have hB9' : B.size ≤ 9 := by omega
    have hB18 : B.size ≤ 18 := by omega
    clear h2
    go_wp2_with (first | (go_at_call 27; refine (spadded_any _ _ (by omega)).mono ?_; rintro e w' ⟨rfl, hw'⟩; subst hw') | (go_at_call 28; refine Hid.out ?_))
    refine hide ?_
    refine (snumber_any A _ h1).mono ?_
    rintro e w2 ⟨rfl, hb2⟩
    obtain ⟨hc2, hf2⟩ := bcell hb2
    go_wp2_with (go_at_call 28; refine Hid.out ?_)
    refine hide ?_
    refine (snumber_any B _ hB18).mono ?_
    rintro e w3 ⟨rfl, hb3⟩
    obtain ⟨hc3, hf3⟩ := bcell hb3
    have hz2 := hb2.size
    have hz12 : w.heap.size < w2.heap.size := by omega
    go_wp2_with fail
    exact bodyPost_ret (v := .tuple #[.agg #[.int .i64 0, .int .i64 0], .bool false]) (by simp [results, Tryd.results14, go_sem, hc, hc2, hc3, hz1, hz12]) rfl ⟨rfl, below_put2 ((hbw.trans (hb2.mono (by omega))).trans (hb3.mono (by omega))) _ _⟩

set_option maxHeartbeats 1000000 in
theorem sparse_yes (s A B : ByteArray) (ok : Bool) (w : World) (hw : Bnd w) (hs : s.size < 4294967281) (hc : Lib.cut s.data.toList [46] = (A.data.toList, B.data.toList, ok))
    (h1 : A.size ≤ 18) (h2 : B.size = 9) (h3 : padB A.data.toList = false) (h4 : numOk A.data.toList = true) (h5 : numOk B.data.toList = true) :
    Calls Tryd.prog 14 #[.string s] w fun e w' => e = .returned (.tuple #[.agg #[.int .i64 (numV A.data.toList), .int .i64 (numV B.data.toList)], .bool true]) ∧ Below w.heap.size w w' := by
  have hb0 : Below w.heap.size w (w.alloc (.cells #[.int .i64 0, .int .i64 0] 23)) := (Below.refl _ _).alloc (Nat.le_refl _) _
  have hcut := hide (cut_any s A B ok _ (hw.on hb0) hs hc)
  clear hc
  have hB9 : 9 ≤ B.size := by omega
  have hB9' : B.size ≤ 9 := by omega
  have hB18 : B.size ≤ 18 := by omega
  clear h2
  go_enter Tryd.func14, Tryd.ntmps14
  go_wp2_with (go_at_call 26; refine Hid.out ?_)
  refine hide ?_
  refine (unhide hcut).mono ?_
  rintro e w1 ⟨rfl, hb1⟩
  obtain ⟨hc, hf⟩ := bcell hb1
  have hbw := hb0.trans (hb1.mono (by simp))
  have hz1 : w.heap.size < w1.heap.size := by have := hb1.size; simp only [World.size_alloc] at this; omega
  go_wp2_with (first | (go_at_call 27; refine (spadded_any _ _ (by omega)).mono ?_; rintro e w' ⟨rfl, hw'⟩; subst hw') | (go_at_call 28; refine Hid.out ?_))
  refine hide ?_
  refine (snumber_any A _ h1).mono ?_
  rintro e w2 ⟨rfl, hb2⟩
  obtain ⟨hc2, hf2⟩ := bcell hb2
  go_wp2_with (go_at_call 28; refine Hid.out ?_)
  refine hide ?_
  refine (snumber_any B _ hB18).mono ?_
  rintro e w3 ⟨rfl, hb3⟩
  obtain ⟨hc3, hf3⟩ := bcell hb3
  have hz2 := hb2.size
  have hz12 : w.heap.size < w2.heap.size := by omega
  go_wp2_with fail
  exact bodyPost_ret (v := .tuple #[.agg #[.int .i64 (numV A.data.toList), .int .i64 (numV B.data.toList)], .bool true]) (by simp [results, Tryd.results14, go_sem, hc, hc2, hc3, hz1, hz12]) rfl ⟨rfl, below_put2 ((hbw.trans (hb2.mono (by omega))).trans (hb3.mono (by omega))) _ _⟩
end Go.Proofs.YtihahbmmipnclaaDoor
