import Derived.Test.YtcbdbkdnindaoaaDoorMk7
import Derived.Test.YtcbdbkdnindaoaaDoorDgMath
import Derived.Deep.RegionWith
import Derived.Deep.RegionHeld3
import Derived.Laws.BytesArg
namespace Go.Proofs.YtcbdbkdnindaoaaDoor
open Go.RowKit Mk Dg

/-- One byte. -/
def oneS (n : Int) : ByteArray := ⟨#[UInt8.ofNat n.toNat]⟩
def decB (n : Int) : ByteArray := bs (Lib.decDigits n.toNat)
theorem oneS_small (n : Int) (h0 : 0 ≤ n) (h : n < 10) : oneS (48 + n) = decB n := by
  unfold oneS decB bs
  rw [Lib.decDigits_one (by omega), show (48 + n).toNat = 48 + n.toNat by omega]
theorem dec19 (n : Int) (h : n ≤ 9223372036854775807) : (Lib.decDigits n.toNat).length ≤ 19 :=
  dec_length_le 18 n.toNat (by rw [show (10 : Nat) ^ (18 + 1) = 10000000000000000000 from by decide]; omega)
theorem decB_size (n : Int) (h : n ≤ 9223372036854775807) : (decB n).size ≤ 19 := by
  unfold decB; rw [bs_size]; exact dec19 n h
theorem decB_step (P : Program) (n : Int) (_h0 : 0 ≤ n) (h : ¬ n < 10) (hm : n ≤ 9223372036854775807) (w : World) :
    (Op.stringOp .add (decB (n / 10)) (oneS (48 + n % 10))).run P w = .ok (.string (decB n)) w := by
  rw [run_string_add_sum w _ _ (by have h1 := decB_size (n / 10) (by omega); have h2 : (oneS (48 + n % 10)).size = 1 := rfl; omega)]
  congr 2
  unfold decB oneS bs
  rw [decDigits_ge (v := n.toNat) (by omega), ByteArray.mk_append_mk _ [_], show n.toNat / 10 = (n / 10).toNat by omega, show 48 + n.toNat % 10 = (48 + n % 10).toNat by omega]
theorem conv_one (b : Nat) (n : Int) (w : World) (h : w.cell? ⟨b, 0, none⟩ = some (.int .u8 n)) :
    (convert 53 9 (.slice (some ⟨b, 0, none⟩) 1 1)).run Tryd.prog w = .ok (.string (oneS n)) w :=
  run_convert_bytes_arg w 53 5 Tryd.underlying53 Tryd.underlying5 b 0 1 1 [n] rfl (fun i hi => by
    have : i = 0 := by omega
    subst this
    exact h) 9 Tryd.underlying9
theorem conv_new (n : Int) (w : World) :
    (convert 53 9 (.slice (some ⟨w.heap.size, 0, none⟩) 1 1)).run Tryd.prog (w.alloc (.cells #[.int .u8 n] 5)) = .ok (.string (oneS n)) (w.alloc (.cells #[.int .u8 n] 5)) :=
  conv_one _ _ _ (by simp [go_sem])
theorem conv_drew (n : Int) (w : World) :
    (convert 53 9 (.slice (some ⟨w.heap.size, 0, none⟩) 1 1)).run Tryd.prog (w.alloc (.cells #[.int .u8 n] 5)).drew = .ok (.string (oneS n)) (w.alloc (.cells #[.int .u8 n] 5)).drew :=
  conv_one _ _ _ (by simp [go_sem])
set_option maxHeartbeats 400000 in
theorem rdigits_one (n : Int) (w : World) (h0 : 0 ≤ n) (h : n < 10) :
    Calls Tryd.prog 24 #[.int .i64 n] w fun e w' => e = .returned (.string (decB n)) ∧ Below w.heap.size w w' := by
  have hcv := conv_new (48 + n) w
  have HD := hide (oneS_small n h0 h)
  go_enter Tryd.func24, Tryd.ntmps24
  go_wp2_with fail
  go_ret
  exact ⟨by rw [← unhide HD]; rfl, (Below.refl _ _).alloc (Nat.le_refl _) _⟩
set_option maxHeartbeats 400000 in
theorem rdigits_any (k : Nat) : ∀ (n : Int) (w : World), n ≤ k → 0 ≤ n → n ≤ 9223372036854775807 →
    Calls Tryd.prog 24 #[.int .i64 n] w fun e w' => e = .returned (.string (decB n)) ∧ Below w.heap.size w w' := by
  induction k with
  | zero => intro n w h h0 _; exact rdigits_one n w h0 (by omega)
  | succ k ih =>
    intro n w hk h0 hm
    by_cases h : n < 10
    · exact rdigits_one n w h0 h
    have HI := hide ih
    clear ih
    have hcv := conv_new (48 + n % 10)
    have hcd := conv_drew (48 + n % 10)
    have hadd := decB_step Tryd.prog n h0 h hm
    have e0 : n.tdiv 10 = n / 10 := Int.tdiv_eq_ediv_of_nonneg h0
    have e1 : IntKind.i64.wrap (n / 10) = n / 10 := by rw [IntKind.wrap_i64]; omega
    have e2 : n.tmod 10 = n % 10 := Int.tmod_eq_emod_of_nonneg h0
    have e3 : IntKind.i64.wrap (48 + n % 10) = 48 + n % 10 := by rw [IntKind.wrap_i64]; omega
    have e4 : IntKind.u8.wrap (48 + n % 10) = 48 + n % 10 := by rw [IntKind.wrap_u8]; omega
    go_enter Tryd.func24, Tryd.ntmps24
    go_wp2_with fail
    go_region_with (go_at_call 24; refine (unhide HI (n / 10) _ (by omega) (by omega) (by omega)).mono ?_; rintro e w' ⟨rfl, hb⟩; obtain ⟨hc, hf⟩ := bcell hb; have hk := conv_one w.heap.size (48 + n % 10) w')
    all_goals
      go_wp2_with fail
      go_ret
      refine ⟨rfl, ?_⟩
      first
        | exact (((Below.refl _ _).alloc (Nat.le_refl _) _).drew).trans (hb.mono (by simp))
        | exact (((Below.refl _ _).drew).trans (hb.mono (by simp))).alloc (by have := hb.size; simp at this; omega) _
theorem rdig (n : Int) (w : World) (h0 : 0 ≤ n) (h1 : n ≤ 9223372036854775807) :
    Calls Tryd.prog 24 #[.int .i64 n] w fun e w' => e = .returned (.string (bs (Lib.decDigits n.toNat))) ∧ Below w.heap.size w w' :=
  rdigits_any n.toNat n w (by omega) h0 h1
end Go.Proofs.YtcbdbkdnindaoaaDoor
