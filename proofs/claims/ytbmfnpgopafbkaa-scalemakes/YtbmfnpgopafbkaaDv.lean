import Derived.Test.YtbmfnpgopafbkaaSc
namespace Go.Proofs.Ytbmfnpgopafbkaa
open Go.RowKit Kt

def len8 : ByteArray := ⟨#[0, 1, 2, 2, 3, 3, 3, 3, 4, 4, 4, 4, 4, 4, 4, 4, 5, 5, 5, 5, 5, 5, 5, 5, 5, 5, 5, 5, 5, 5, 5, 5, 6, 6, 6, 6, 6, 6, 6, 6, 6, 6, 6, 6, 6, 6, 6, 6, 6, 6, 6, 6, 6, 6, 6, 6, 6, 6, 6, 6, 6, 6, 6, 6, 7, 7, 7, 7, 7, 7, 7, 7, 7, 7, 7, 7, 7, 7, 7, 7, 7, 7, 7, 7, 7, 7, 7, 7, 7, 7, 7, 7, 7, 7, 7, 7, 7, 7, 7, 7, 7, 7, 7, 7, 7, 7, 7, 7, 7, 7, 7, 7, 7, 7, 7, 7, 7, 7, 7, 7, 7, 7, 7, 7, 7, 7, 7, 7, 8, 8, 8, 8, 8, 8, 8, 8, 8, 8, 8, 8, 8, 8, 8, 8, 8, 8, 8, 8, 8, 8, 8, 8, 8, 8, 8, 8, 8, 8, 8, 8, 8, 8, 8, 8, 8, 8, 8, 8, 8, 8, 8, 8, 8, 8, 8, 8, 8, 8, 8, 8, 8, 8, 8, 8, 8, 8, 8, 8, 8, 8, 8, 8, 8, 8, 8, 8, 8, 8, 8, 8, 8, 8, 8, 8, 8, 8, 8, 8, 8, 8, 8, 8, 8, 8, 8, 8, 8, 8, 8, 8, 8, 8, 8, 8, 8, 8, 8, 8, 8, 8, 8, 8, 8, 8, 8, 8, 8, 8, 8, 8, 8, 8, 8, 8, 8, 8, 8, 8, 8, 8, 8, 8, 8, 8, 8, 8]⟩
set_option maxRecDepth 100000 in
theorem len8_all : ∀ k, k < 256 → (len8.data.getD k 0).toNat ≤ 8 ∧ k < 2 ^ (len8.data.getD k 0).toNat ∧ (0 < k → 1 ≤ (len8.data.getD k 0).toNat) := by decide +kernel
theorem len8_get (k : Nat) (h : k < len8.size) : len8[k] = len8.data.getD k 0 := by
  have h' : k < len8.data.size := h
  show len8.data[k] = _
  unfold Array.getD
  rw [dif_pos h']
  rfl
theorem len8_at (x : Int) (h0 : 1 ≤ x) (h1 : x < 256) (hs : x.toNat < len8.size) : 1 ≤ (len8[x.toNat]'hs).toNat ∧ (len8[x.toNat]'hs).toNat ≤ 8 ∧ x < 2 ^ (len8[x.toNat]'hs).toNat := by
  have h := len8_all x.toNat (by omega)
  rw [len8_get x.toNat hs]
  refine ⟨h.2.2 (by omega), h.1, ?_⟩
  have h2 : ((x.toNat : Nat) : Int) < ((2 ^ (len8.data.getD x.toNat 0).toNat : Nat) : Int) := by exact_mod_cast h.2.1
  rw [Int.natCast_pow] at h2
  have h3 : ((x.toNat : Nat) : Int) = x := by omega
  rw [h3] at h2
  exact h2
/-- How many bits a number below so many halvings has. -/
theorem bits_up (x q : Int) (n k : Nat) (hq : x / 2 ^ k = q) (h : q < 2 ^ n) : x < 2 ^ (k + n) := by
  have hk : (0 : Int) < 2 ^ k := Int.pow_pos (by omega)
  have h1 : x < (q + 1) * 2 ^ k := by
    have := Int.lt_ediv_add_one_mul_self x hk
    rw [hq] at this; exact this
  have h2 : (q + 1) * 2 ^ k ≤ 2 ^ n * 2 ^ k := Int.mul_le_mul_of_nonneg_right (by omega) (Int.le_of_lt hk)
  rw [Int.pow_add, Int.mul_comm (2 ^ k)]; omega

set_option maxRecDepth 100000 in
set_option maxHeartbeats 1000000 in
theorem len64_any (x : Int) (w : World) (h0 : 1 ≤ x) (h1 : x < 4294967296) :
    Calls Try.prog 40 #[.int .u64 x] w fun e w' => (∃ n : Nat, 1 ≤ n ∧ n ≤ 32 ∧ x < 2 ^ n ∧ e = .returned (.int .i64 (n : Int))) ∧ w' = w := by
  by_cases h2 : x < 65536
  · by_cases h3 : x < 256
    · go_enter Try.func40, Try.ntmps40
      go_wp2
      go_ret
      have hs : x.toNat < len8.size := by show x.toNat < 256; omega
      have h := len8_at x h0 h3 hs
      refine ⟨⟨(len8[x.toNat]'hs).toNat, h.1, by omega, h.2.2, ?_⟩, rfl⟩
      refine ret_int ?_
      show wrap64 (wrap64 ((len8[x.toNat]'hs).toNat : Int)) = _
      simp only [wrap64]; omega
    · go_enter Try.func40, Try.ntmps40
      go_wp2
      go_ret
      have hs : (x / 256).toNat < len8.size := by show (x / 256).toNat < 256; omega
      have h := len8_at (x / 256) (by omega) (by omega) hs
      refine ⟨⟨8 + (len8[(x / 256).toNat]'hs).toNat, by omega, by omega, bits_up x (x / 256) _ 8 (by rfl) h.2.2, ?_⟩, rfl⟩
      refine ret_int ?_
      show wrap64 (8 + wrap64 ((len8[(x / 256).toNat]'hs).toNat : Int)) = _
      simp only [wrap64]; omega
  · by_cases h3 : x < 16777216
    · go_enter Try.func40, Try.ntmps40
      go_wp2
      go_ret
      have hs : (x / 65536).toNat < len8.size := by show (x / 65536).toNat < 256; omega
      have h := len8_at (x / 65536) (by omega) (by omega) hs
      refine ⟨⟨16 + (len8[(x / 65536).toNat]'hs).toNat, by omega, by omega, bits_up x (x / 65536) _ 16 (by rfl) h.2.2, ?_⟩, rfl⟩
      refine ret_int ?_
      show wrap64 (16 + wrap64 ((len8[(x / 65536).toNat]'hs).toNat : Int)) = _
      simp only [wrap64]; omega
    · go_enter Try.func40, Try.ntmps40
      go_wp2
      go_ret
      have hs : (x / 65536 / 256).toNat < len8.size := by show (x / 65536 / 256).toNat < 256; omega
      have h := len8_at (x / 65536 / 256) (by omega) (by omega) hs
      refine ⟨⟨24 + (len8[(x / 65536 / 256).toNat]'hs).toNat, by omega, by omega, bits_up x (x / 65536 / 256) _ 24 (by rw [Int.ediv_ediv_of_nonneg (by omega)]; rfl) h.2.2, ?_⟩, rfl⟩
      refine ret_int ?_
      show wrap64 (24 + wrap64 ((len8[(x / 65536 / 256).toNat]'hs).toNat : Int)) = _
      simp only [wrap64]; omega
end Go.Proofs.Ytbmfnpgopafbkaa
