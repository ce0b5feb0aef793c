import Derived.Test.YtcpehfjpdegmbaaDoorDu8
import Derived.Deep.RegionWith
import Derived.Laws.BytesArg
namespace Go.Proofs.YtcpehfjpdegmbaaDoor
open Go.RowKit Kt Dg Du

theorem ucell9 (i : Nat) (h : i < 7) : (#[.int .i64 86400000000000, .int .i64 3600000000000, .int .i64 60000000000, .int .i64 1000000000, .int .i64 1000000, .int .i64 1000, .int .i64 1] : Array Value)[i]? = some (.int .i64 (unitAt i).1) := by
  rcases (show i = 0 ∨ i = 1 ∨ i = 2 ∨ i = 3 ∨ i = 4 ∨ i = 5 ∨ i = 6 by omega) with rfl | rfl | rfl | rfl | rfl | rfl | rfl
  all_goals rfl
theorem ncell (i : Nat) (h : i < 7) : (#[.string ⟨#[100]⟩, .string ⟨#[104]⟩, .string ⟨#[109]⟩, .string ⟨#[115]⟩, .string ⟨#[109, 115]⟩, .string ⟨#[117, 115]⟩, .string ⟨#[110, 115]⟩] : Array Value)[i]? = some (.string (bs (unitAt i).2)) := by
  rcases (show i = 0 ∨ i = 1 ∨ i = 2 ∨ i = 3 ∨ i = 4 ∨ i = 5 ∨ i = 6 by omega) with rfl | rfl | rfl | rfl | rfl | rfl | rfl
  all_goals rfl
theorem rnames_any (w : World) :
    Calls Tryd.prog 21 #[] w fun e w' => e = .returned (.slice (some ⟨w.heap.size, 0, none⟩) 7 7) ∧ w' = w.alloc (.cells #[.string ⟨#[100]⟩, .string ⟨#[104]⟩, .string ⟨#[109]⟩, .string ⟨#[115]⟩, .string ⟨#[109, 115]⟩, .string ⟨#[117, 115]⟩, .string ⟨#[110, 115]⟩] 9) := by
  go_enter Tryd.func21, Tryd.ntmps21
  go_wp2_with fail
  go_ret
  exact ⟨rfl, rfl⟩
theorem rsizes_any (w : World) :
    Calls Tryd.prog 19 #[] w fun e w' => e = .returned (.slice (some ⟨w.heap.size, 0, none⟩) 7 7) ∧ w' = w.alloc (.cells #[.int .i64 86400000000000, .int .i64 3600000000000, .int .i64 60000000000, .int .i64 1000000000, .int .i64 1000000, .int .i64 1000, .int .i64 1] 3) := by
  go_enter Tryd.func19, Tryd.ntmps19
  go_wp2_with fail
  go_ret
  exact ⟨rfl, rfl⟩
theorem ncell_new (i : Nat) (h : i < 7) (w : World) : (w.alloc (.cells #[.string ⟨#[100]⟩, .string ⟨#[104]⟩, .string ⟨#[109]⟩, .string ⟨#[115]⟩, .string ⟨#[109, 115]⟩, .string ⟨#[117, 115]⟩, .string ⟨#[110, 115]⟩] 9)).cell? ⟨w.heap.size, i, none⟩ = some (.string (bs (unitAt i).2)) := by
  rw [(Blk.new w _ _).cell]; exact ncell i h
theorem ucell_new (i : Nat) (h : i < 7) (w : World) : ∀ w', Below (w.alloc (.cells #[.int .i64 86400000000000, .int .i64 3600000000000, .int .i64 60000000000, .int .i64 1000000000, .int .i64 1000000, .int .i64 1000, .int .i64 1] 3)).heap.size (w.alloc (.cells #[.int .i64 86400000000000, .int .i64 3600000000000, .int .i64 60000000000, .int .i64 1000000000, .int .i64 1000000, .int .i64 1000, .int .i64 1] 3)) w' → w'.cell? ⟨w.heap.size, i, none⟩ = some (.int .i64 (unitAt i).1) := by
  intro w' hb
  rw [((Blk.new w 3 #[.int .i64 86400000000000, .int .i64 3600000000000, .int .i64 60000000000, .int .i64 1000000000, .int .i64 1000000, .int .i64 1000, .int .i64 1]).below hb (Blk.new w 3 #[.int .i64 86400000000000, .int .i64 3600000000000, .int .i64 60000000000, .int .i64 1000000000, .int .i64 1000000, .int .i64 1000, .int .i64 1]).lt).cell]; exact ucell9 i h

theorem pre_take (l p : List UInt8) : p.isPrefixOf l = (l.take p.length == p) := by
  rw [Bool.eq_iff_iff, List.isPrefixOf_iff_prefix, List.prefix_iff_eq_take, beq_iff_eq]
  exact ⟨fun h => h.symm, fun h => h.symm⟩
theorem pre_short (l p : List UInt8) (h : l.length < p.length) : p.isPrefixOf l = false := by
  cases e : p.isPrefixOf l
  · rfl
  · have := (List.isPrefixOf_iff_prefix.1 e).length_le
    omega
set_option maxHeartbeats 400000 in
theorem rhead_any (l p : List UInt8) (w : World) :
    Calls Tryd.prog 24 #[.string (bs l), .string (bs p)] w fun e w' => e = .returned (.bool (p.isPrefixOf l)) ∧ w' = w := by
  have z1 := bs_size l
  have z2 := bs_size p
  by_cases h : p.length ≤ l.length
  · have x1 : (bs l).extract 0 p.length = bs (l.take p.length) := by rw [bs_cut, List.drop_zero]
    have HB := hide (show p.isPrefixOf l = ((bs (l.take p.length)).toList == (bs p).toList) by rw [bs_eq, pre_take l p])
    generalize p.isPrefixOf l = B at *
    generalize List.take p.length l = r at *
    go_enter Tryd.func24, Tryd.ntmps24
    go_wp2_with fail
    go_ret
    exact ⟨ret_bool (unhide HB).symm, rfl⟩
  · have HB := hide (pre_short l p (by omega))
    generalize p.isPrefixOf l = B at *
    go_enter Tryd.func24, Tryd.ntmps24
    go_wp2_with fail
    go_ret
    exact ⟨ret_bool (unhide HB).symm, rfl⟩

/-- One byte. -/
def oneS (n : Int) : ByteArray := ⟨#[UInt8.ofNat n.toNat]⟩
def decB (n : Int) : ByteArray := bs (Lib.decDigits n.toNat)
theorem oneS_small (n : Int) (h0 : 0 ≤ n) (h : n < 10) : oneS (48 + n) = decB n := by
  unfold oneS decB bs
  rw [Lib.decDigits_one (by omega), show (48 + n).toNat = 48 + n.toNat by omega]
theorem dec19 (n : Int) (h : n ≤ 9223372036854775807) : (Lib.decDigits n.toNat).length ≤ 19 :=
  dec_length_le 18 n.toNat (by rw [show (10 : Nat) ^ (18 + 1) = 10000000000000000000 from by decide]; omega)
theorem decB_size (n : Int) (h : n ≤ 9223372036854775807) : (decB n).size ≤ 19 := by
  unfold decB; rw [bs_size]; exact dec19 n h
theorem decB_step (P : Program) (n : Int) (_h0 : 0 ≤ n) (h : ¬ n < 10) (hm : n ≤ 9223372036854775807) (w : World) :
    (Op.stringOp .add (decB (n / 10)) (oneS (48 + n % 10))).run P w = .ok (.string (decB n)) w := by
  rw [run_string_add_sum w _ _ (by have h1 := decB_size (n / 10) (by omega); have h2 : (oneS (48 + n % 10)).size = 1 := rfl; omega)]
  congr 2
  unfold decB oneS bs
  rw [decDigits_ge (v := n.toNat) (by omega), ByteArray.mk_append_mk _ [_], show n.toNat / 10 = (n / 10).toNat by omega, show 48 + n.toNat % 10 = (48 + n % 10).toNat by omega]
theorem conv_one (b : Nat) (n : Int) (w : World) (h : w.cell? ⟨b, 0, none⟩ = some (.int .u8 n)) :
    (convert 43 9 (.slice (some ⟨b, 0, none⟩) 1 1)).run Tryd.prog w = .ok (.string (oneS n)) w :=
  run_convert_bytes_arg w 43 5 Tryd.underlying43 Tryd.underlying5 b 0 1 1 [n] rfl (fun i hi => by
    have : i = 0 := by omega
    subst this
    exact h) 9 Tryd.underlying9
theorem conv_new (n : Int) (w : World) :
    (convert 43 9 (.slice (some ⟨w.heap.size, 0, none⟩) 1 1)).run Tryd.prog (w.alloc (.cells #[.int .u8 n] 5)) = .ok (.string (oneS n)) (w.alloc (.cells #[.int .u8 n] 5)) :=
  conv_one _ _ _ (by simp [go_sem])
theorem conv_drew (n : Int) (w : World) :
    (convert 43 9 (.slice (some ⟨w.heap.size, 0, none⟩) 1 1)).run Tryd.prog (w.alloc (.cells #[.int .u8 n] 5)).drew = .ok (.string (oneS n)) (w.alloc (.cells #[.int .u8 n] 5)).drew :=
  conv_one _ _ _ (by simp [go_sem])
set_option maxHeartbeats 400000 in
theorem rdigits_one (n : Int) (w : World) (h0 : 0 ≤ n) (h : n < 10) :
    Calls Tryd.prog 20 #[.int .i64 n] w fun e w' => e = .returned (.string (decB n)) ∧ Below w.heap.size w w' := by
  have hcv := conv_new (48 + n) w
  have HD := hide (oneS_small n h0 h)
  go_enter Tryd.func20, Tryd.ntmps20
  go_wp2_with fail
  go_ret
  exact ⟨by rw [← unhide HD]; rfl, (Below.refl _ _).alloc (Nat.le_refl _) _⟩
set_option maxHeartbeats 400000 in
theorem rdigits_any (k : Nat) : ∀ (n : Int) (w : World), n ≤ k → 0 ≤ n → n ≤ 9223372036854775807 →
    Calls Tryd.prog 20 #[.int .i64 n] w fun e w' => e = .returned (.string (decB n)) ∧ Below w.heap.size w w' := by
  induction k with
  | zero => intro n w h h0 _; exact rdigits_one n w h0 (by omega)
  | succ k ih =>
    intro n w hk h0 hm
    by_cases h : n < 10
    · exact rdigits_one n w h0 h
    have HI := hide ih
    clear ih
    have hcv := conv_new (48 + n % 10)
    have hcd := conv_drew (48 + n % 10)
    have hadd := decB_step Tryd.prog n h0 h hm
    have e0 : n.tdiv 10 = n / 10 := Int.tdiv_eq_ediv_of_nonneg h0
    have e1 : IntKind.i64.wrap (n / 10) = n / 10 := by rw [IntKind.wrap_i64]; omega
    have e2 : n.tmod 10 = n % 10 := Int.tmod_eq_emod_of_nonneg h0
    have e3 : IntKind.i64.wrap (48 + n % 10) = 48 + n % 10 := by rw [IntKind.wrap_i64]; omega
    have e4 : IntKind.u8.wrap (48 + n % 10) = 48 + n % 10 := by rw [IntKind.wrap_u8]; omega
    go_enter Tryd.func20, Tryd.ntmps20
    go_wp2_with fail
    go_region_with (go_at_call 20; refine (unhide HI (n / 10) _ (by omega) (by omega) (by omega)).mono ?_; rintro e w' ⟨rfl, hb⟩; obtain ⟨hc, hf⟩ := bcell hb; have hk := conv_one w.heap.size (48 + n % 10) w')
    all_goals
      go_wp2_with fail
      go_ret
      refine ⟨rfl, ?_⟩
      first
        | exact (((Below.refl _ _).alloc (Nat.le_refl _) _).drew).trans (hb.mono (by simp))
        | exact (((Below.refl _ _).drew).trans (hb.mono (by simp))).alloc (by have := hb.size; simp at this; omega) _
theorem rdig (n : Int) (w : World) (h0 : 0 ≤ n) (h1 : n ≤ 9223372036854775807) :
    Calls Tryd.prog 20 #[.int .i64 n] w fun e w' => e = .returned (.string (bs (Lib.decDigits n.toNat))) ∧ Below w.heap.size w w' :=
  rdigits_any n.toNat n w (by omega) h0 h1
end Go.Proofs.YtcpehfjpdegmbaaDoor
