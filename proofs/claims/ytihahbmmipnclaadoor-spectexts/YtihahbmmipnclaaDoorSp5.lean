import Derived.Test.YtihahbmmipnclaaDoorSp4
import Derived.Test.YtihahbmmipnclaaDoorShelf
import Derived.Lib.SmallJoins
import Derived.Lib.ItoaMem
namespace Go.Proofs.YtihahbmmipnclaaDoor
open Go.RowKit Kt Dg

/-- The library's table of powers, and its bound: what they hold. -/
def Tab (w : World) : Prop := Lib.TabIs Tryd.prog w "internal/strconv.uint64pow10" .u64 Lib.pow10Tab
theorem tab_named : ∃ g, Tryd.prog.globalNamed "internal/strconv.uint64pow10" = some g := Option.isSome_iff_exists.1 (by kernel_rfl)
theorem Tab.on {w w' : World} (h : Tab w) (hb : Below w.heap.size w w') : Tab w' := by
  obtain ⟨g, hg⟩ := tab_named
  exact Go.Joins.tab_stays hg h hb (Nat.le_refl _)
theorem below_grow (w : World) (k : Nat) (os : Array Obj) : Below w.heap.size w (Go.Sort.grow (w.drewN k) os) :=
  ⟨rfl, rfl, rfl, by simp [Go.Sort.grow], fun b hb => by
    show (w.heap ++ os)[b]? = w.heap[b]?
    rw [Array.getElem?_append_left hb]⟩
theorem itoa_any (n : Int) (w : World) (ht : Tab w) (h0 : 0 ≤ n) (h1 : n ≤ 9223372036854775807) :
    Calls Tryd.prog 24 #[.int .i64 n] w fun e w' => e = .returned (.string (decS n)) ∧ Below w.heap.size w w' := by
  refine (Tryd.strconv_Itoa n (by omega) h1 w ht).mono ?_
  rintro e w' ⟨rfl, k, os, rfl⟩
  refine ⟨?_, below_grow w k os⟩
  unfold decS Lib.itoa
  rw [if_neg (by omega)]

/-- A spec's text. -/
def textL (s n : Nat) : List UInt8 := Lib.decDigits s ++ 46 :: padTo 9 n
def textS (s n : Int) : ByteArray := ⟨(textL s.toNat n.toNat).toArray⟩
theorem decS_list (n : Int) : (decS n).data.toList = Lib.decDigits n.toNat := by simp [decS]
theorem text_join (s n : Int) (h0 : 0 ≤ n) (h1 : n ≤ 999999999) : decS s ++ ⟨#[46]⟩ ++ (decS (1000000000 + n)).extract 1 (decS (1000000000 + n)).size = textS s n := by
  apply ByteArray.ext
  rw [← Array.toList_inj]
  have e1 : Lib.decDigits (1000000000 + n).toNat = 49 :: padTo 9 n.toNat := by
    have := dec_padTo 9 n.toNat (by rw [show (10 : Nat) ^ 9 = 1000000000 from by decide]; omega)
    rw [← this]
    congr 1
    rw [show (10 : Nat) ^ 9 = 1000000000 from by decide]; omega
  have e2 : ((decS (1000000000 + n)).extract 1 (decS (1000000000 + n)).size).data.toList = padTo 9 n.toNat := by
    rw [Lib.extract_data, decS_list, e1]
    have hz : (decS (1000000000 + n)).size = 10 := by
      show (Lib.decDigits (1000000000 + n).toNat).toArray.size = 10
      rw [e1]; simp [padTo_length]
    rw [hz, List.drop_succ_cons, List.drop_zero, List.take_of_length_le (by rw [padTo_length]; omega)]
  rw [Go.Joins.data_append, Go.Joins.data_append, e2, decS_list]
  simp [textS, textL]
theorem decS_pos (n : Int) : 1 ≤ (decS n).size := by
  show 1 ≤ (Lib.decDigits n.toNat).toArray.size
  have := List.length_pos_iff.2 (dec_ne n.toNat)
  simp only [List.size_toArray]; omega

set_option maxHeartbeats 400000 in
theorem stext_bad (s n : Int) (w : World) (h : rightB s n = false) :
    Calls Tryd.prog 12 #[.agg #[.int .i64 s, .int .i64 n]] w fun e w' => e = .returned (.tuple #[.string ⟨#[]⟩, .bool false]) ∧ Below w.heap.size w w' := by
  go_enter Tryd.func12, Tryd.ntmps12
  go_wp2_with (go_at_call 8; refine (sright_any _ _ _).mono ?_; rintro e w' ⟨rfl, rfl⟩)
  go_ret2
  exact ⟨rfl, ((Below.refl _ _).alloc (Nat.le_refl _) _).alloc (by simp) _⟩
set_option maxHeartbeats 400000 in
theorem stext_good (s n : Int) (w : World) (ht : Tab w) (h : rightB s n = true) (hs : s ≤ 9223372036854775807) :
    Calls Tryd.prog 12 #[.agg #[.int .i64 s, .int .i64 n]] w fun e w' => e = .returned (.tuple #[.string (textS s n), .bool true]) ∧ Below w.heap.size w w' := by
  have hr := rightB_true h
  have HJ := hide (text_join s n hr.2.1 hr.2.2)
  have z1 := decS_size s hs
  have z2 := decS_size (1000000000 + n) (by omega)
  have z3 := decS_pos (1000000000 + n)
  have hb0 : Below w.heap.size w ((w.alloc (.cells #[.int .i64 s, .int .i64 n] 23)).alloc (.cells #[.int .i64 s, .int .i64 n] 23)) := ((Below.refl _ _).alloc (Nat.le_refl _) _).alloc (by simp) _
  go_enter Tryd.func12, Tryd.ntmps12
  go_wp2_with (first | (go_at_call 8; refine (sright_any _ _ _).mono ?_; rintro e w' ⟨rfl, rfl⟩) | (go_at_call 24; refine Hid.out ?_))
  refine hide ?_
  refine (itoa_any _ _ (ht.on hb0) (by omega) (by omega)).mono ?_
  rintro e w1 ⟨rfl, hb1⟩
  obtain ⟨hc, hf⟩ := bcell hb1
  have ht1 := (ht.on hb0).on hb1
  go_wp2_with (go_at_call 24; refine Hid.out ?_)
  refine hide ?_
  refine (itoa_any _ _ ht1 (by omega) (by omega)).mono ?_
  rintro e w2 ⟨rfl, hb2⟩
  go_wp2_with fail
  go_ret2
  refine ⟨by rw [← unhide HJ]; rfl, ?_⟩
  exact (hb0.trans (hb1.mono (by simp; omega))).trans (hb2.mono (by have := hb1.size; simp at this; omega))

/-- Zeros in front. -/
def padS (k : Nat) (n : Int) : ByteArray := ⟨(List.replicate k 48 ++ Lib.decDigits n.toNat).toArray⟩
theorem padS_zero (n : Int) : padS 0 n = decS n := rfl
theorem padS_size (k : Nat) (n : Int) : (padS k n).size = k + (Lib.decDigits n.toNat).length := by
  show (List.replicate k 48 ++ Lib.decDigits n.toNat).toArray.size = _
  simp
theorem padS_step (P : Program) (k : Nat) (n : Int) (hk : k ≤ 9) (hn : n ≤ 9223372036854775807) (w : World) :
    (Op.stringOp .add ⟨#[48]⟩ (padS k n)).run P w = .ok (.string (padS (k + 1) n)) w := by
  have h1 := dec_len n hn
  have h2 := padS_size k n
  have h3 : (⟨#[48]⟩ : ByteArray).size = 1 := rfl
  rw [run_string_add_sum w _ _ (by omega)]
  congr 2
theorem text_pad (s n : Int) (k : Nat) (hn : n ≤ 999999999) (h0 : 0 ≤ n) (hk : k + (Lib.decDigits n.toNat).length = 9) : decS s ++ ⟨#[46]⟩ ++ padS k n = textS s n := by
  apply ByteArray.ext
  rw [← Array.toList_inj, Go.Joins.data_append, Go.Joins.data_append, decS_list]
  have := padTo_zeros 9 n.toNat (by rw [show (10 : Nat) ^ 9 = 1000000000 from by decide]; omega) (by omega)
  rw [show 9 - (Lib.decDigits n.toNat).length = k by omega] at this
  simp [textS, textL, padS, this]

set_option maxHeartbeats 1000000 in
theorem rtext_any (s n : Int) (w : World) (h : rightB s n = true) (hs : s ≤ 9223372036854775807) :
    Calls Tryd.prog 13 #[.agg #[.int .i64 s, .int .i64 n]] w fun e w' => e = .returned (.string (textS s n)) ∧ Below w.heap.size w w' := by
  have hr := rightB_true h
  have hl9 : (Lib.decDigits n.toNat).length ≤ 9 := dec_length_le 8 n.toNat (by rw [show (10 : Nat) ^ (8 + 1) = 1000000000 from by decide]; omega)
  have z1 := decS_size s hs
  have hb0 : Below w.heap.size w (w.alloc (.cells #[.int .i64 s, .int .i64 n] 23)) := (Below.refl _ _).alloc (Nat.le_refl _) _
  go_enter Tryd.func13, Tryd.ntmps13
  go_wp2_with (go_at_call 25; refine Hid.out ?_)
  refine hide ?_
  refine (rdigits_any n.toNat n _ (by omega) (by omega) (by omega)).mono ?_
  rintro e w1 ⟨rfl, hb1⟩
  obtain ⟨hc, hf⟩ := bcell hb1
  go_wp2_with fail
  go_loop [3] (fun t => ∃ k : Nat, t = .string (padS k n) ∧ k + (Lib.decDigits n.toNat).length ≤ 9) (fun t => match t with | .string b => 9 - b.size | _ => 0)
  case atStart => exact ⟨0, rfl, by omega⟩
  case round =>
    obtain ⟨k, rfl, hk⟩ := hrel
    have hz := padS_size k n
    have hz2 := padS_size (k + 1) n
    by_cases hlt : k + (Lib.decDigits n.toNat).length < 9
    · have ha := padS_step Tryd.prog k n (by omega) (by omega)
      have hsz : (padS k n).size < 9 := by omega
      have H2 := hide hz2
      have H1 := hide hz
      clear hz hz2
      go_wp2_with fail
      go_round
      case rel => exact ⟨k + 1, rfl, by omega⟩
      case measure =>
        show 9 - (padS (k + 1) n).size < 9 - (padS k n).size
        rw [unhide H1, unhide H2]; omega
    · have hsz : 9 ≤ (padS k n).size := by omega
      have hsz2 : (padS k n).size ≤ 9 := by omega
      have HJ := hide (text_pad s n k hr.2.2 hr.2.1 (by omega))
      clear hz hz2
      go_wp2_with (go_at_call 25; refine Hid.out ?_)
      refine hide ?_
      refine (rdigits_any s.toNat s _ (by omega) (by omega) (by omega)).mono ?_
      rintro e w2 ⟨rfl, hb2⟩
      go_wp2_with fail
      go_ret
      refine ⟨by rw [← unhide HJ]; rfl, ?_⟩
      exact (hb0.trans (hb1.mono (by simp))).trans (hb2.mono (by have := hb1.size; simp at this; omega))
end Go.Proofs.YtihahbmmipnclaaDoor
