import Derived.Test.YtjngnmpjkiafpaaDoorDgMath
import Derived.Test.YtjngnmpjkiafpaaDoorCv7
import Derived.Test.YtjngnmpjkiafpaaDoorShelf
import Derived.Lib.Strings
import Derived.Laws.BytesArg
namespace Go.Proofs.YtjngnmpjkiafpaaDoor
open Go.RowKit Cv Dg

/-- A number's digits. -/
def decS (n : Int) : ByteArray := ⟨(Lib.decDigits n.toNat).toArray⟩
/-- Just k of them. -/
def padB (k : Nat) (n : Int) : ByteArray := ⟨(padTo k n.toNat).toArray⟩
theorem padB_size (k : Nat) (n : Int) : (padB k n).size = k := by
  show (padTo k n.toNat).toArray.size = k
  simp [padTo_length]
theorem padB_list (k : Nat) (n : Int) : (padB k n).data.toList = padTo k n.toNat := by simp [padB]
theorem decS_size (n : Int) : (decS n).size = (Lib.decDigits n.toNat).length := by simp [decS, ByteArray.size]
theorem decS_list (n : Int) : (decS n).data.toList = Lib.decDigits n.toNat := by simp [decS]
theorem below_grow (w : World) (k : Nat) (os : Array Obj) : Below w.heap.size w (Go.Sort.grow (w.drewN k) os) :=
  ⟨rfl, rfl, rfl, by simp [Go.Sort.grow], fun b hb => by
    show (w.heap ++ os)[b]? = w.heap[b]?
    rw [Array.getElem?_append_left hb]⟩
theorem itoa_any (n : Int) (w : World) (ht : CTab w) (h0 : 0 ≤ n) (h1 : n ≤ 9223372036854775807) :
    Calls Tryd.prog 40 #[.int .i64 n] w fun e w' => e = .returned (.string (decS n)) ∧ Below w.heap.size w w' := by
  refine (Tryd.strconv_Itoa n (by omega) h1 w ht.pow).mono ?_
  rintro e w' ⟨rfl, k, os, rfl⟩
  refine ⟨?_, below_grow w k os⟩
  unfold decS Lib.itoa
  rw [if_neg (by omega)]
theorem repeatL_one48 : ∀ c, Lib.repeatL [48] c = List.replicate c 48
  | 0 => rfl
  | c + 1 => by rw [Lib.repeatL, repeatL_one48 c, List.replicate_succ]; rfl
theorem dec_len {k n : Nat} (hk : 1 ≤ k) (h : n < 10 ^ k) : (Lib.decDigits n).length ≤ k := by
  obtain ⟨j, rfl⟩ : ∃ j, k = j + 1 := ⟨k - 1, by omega⟩
  exact dec_length_le j n h
theorem pad_join (k : Nat) (n : Int) (hk : 1 ≤ k) (h : n.toNat < 10 ^ k) :
    (⟨(Lib.repeatL (⟨#[48]⟩ : ByteArray).data.toList (k - (Lib.decDigits n.toNat).length)).toArray⟩ : ByteArray) ++ decS n = padB k n := by
  apply ByteArray.ext
  rw [← Array.toList_inj, Go.Joins.data_append, padB_list, decS_list, padTo_zeros k n.toNat h (dec_len hk h)]
  have := repeatL_one48 (k - (Lib.decDigits n.toNat).length)
  simpa using this
set_option maxHeartbeats 1000000 in
theorem padded_any (n : Int) (k : Nat) (w : World) (ht : CTab w) (h0 : 0 ≤ n) (hk : 1 ≤ k) (hk2 : k ≤ 18) (h : n.toNat < 10 ^ k) :
    Calls Tryd.prog 35 #[.int .i64 n, .int .i64 k] w fun e w' => e = .returned (.string (padB k n)) ∧ Below w.heap.size w w' := by
  have hl := dec_len hk h
  have hn : n ≤ 9223372036854775807 := by
    have : (10 : Nat) ^ k ≤ 10 ^ 18 := Nat.pow_le_pow_right (by decide) hk2
    rw [show (10 : Nat) ^ 18 = 1000000000000000000 from by decide] at this
    omega
  have HJ := hide (pad_join k n hk h)
  have hz := decS_size n
  obtain ⟨L, hL⟩ : ∃ L, (Lib.decDigits n.toNat).length = L := ⟨_, rfl⟩
  rw [hL] at hz hl HJ
  clear hL
  have hc : ((k : Int) - (L : Int)) = ((k - L : Nat) : Int) := by omega
  have z1 : (⟨#[48]⟩ : ByteArray).size = 1 := rfl
  have CR := fun w' => hide (Tryd.strings_Repeat ⟨#[48]⟩ (k - L) w' (by omega) (by rw [z1]; omega))
  have z2 : (⟨(Lib.repeatL (⟨#[48]⟩ : ByteArray).data.toList (k - L)).toArray⟩ : ByteArray).size = k - L := by
    show (Lib.repeatL (⟨#[48]⟩ : ByteArray).data.toList (k - L)).toArray.size = k - L
    rw [List.size_toArray, Lib.repeatL_length]; simp
  obtain ⟨R, hR⟩ : ∃ R, (⟨(Lib.repeatL (⟨#[48]⟩ : ByteArray).data.toList (k - L)).toArray⟩ : ByteArray) = R := ⟨_, rfl⟩
  rw [hR] at z2 HJ CR
  clear hR
  go_enter Tryd.func35, Tryd.ntmps35
  go_wp2_with (first | (go_at_call 40; refine (itoa_any _ _ ht (by omega) (by omega)).mono ?_; rintro e w1 ⟨rfl, hb1⟩) | (go_at_call 41; refine Hid.out ?_))
  refine hide ?_
  refine (unhide (CR _)).mono ?_
  rintro e w2 ⟨rfl, hb2⟩
  go_wp2_with fail
  go_ret
  refine ⟨by rw [← unhide HJ]; rfl, ?_⟩
  exact hb1.trans (hb2.mono hb1.size)
end Go.Proofs.YtjngnmpjkiafpaaDoor
