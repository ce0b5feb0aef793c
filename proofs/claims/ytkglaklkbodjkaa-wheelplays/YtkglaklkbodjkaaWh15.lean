import Derived.Test.YtkglaklkbodjkaaWh14
import Derived.Test.YtkglaklkbodjkaaTch
import Derived.Lib.SliceRun
namespace Go.Proofs.Ytkglaklkbodjkaa
open Go.RowKit Wh
set_option linter.unusedVariables false

theorem clo_any (w : World) (bq : Nat) (id x : Int) (hq : w.cell? ⟨bq, 0, none⟩ = some (.int .i64 id)) : Calls Try.prog 54 #[.int .i64 x, .pointer (some ⟨bq, 0, none⟩)] w fun e w' => e = .returned (.bool (x == id)) ∧ w' = w := by
  go_enter Try.func54, Try.ntmps54
  go_wp2
  go_ret
  exact ⟨rfl, rfl⟩
theorem nodup_ne {l : List Int} (h : l.Nodup) {i j : Nat} {x y : Int} (hx : l[i]? = some x) (hy : l[j]? = some y) (hij : i ≠ j) : y ≠ x := fun e => by
  subst e
  obtain ⟨h1, h2⟩ := List.getElem?_eq_some_iff.1 hx
  obtain ⟨h3, h4⟩ := List.getElem?_eq_some_iff.1 hy
  exact hij ((List.getElem_inj h).1 (h2.trans h4.symm))
set_option maxRecDepth 100000 in
set_option maxHeartbeats 1000000 in
theorem idxf_any (w : World) (g n cap bq : Nat) (l : List Int) (id : Int) (k : Nat) (hc : ∀ j x, l[j]? = some x → w.cell? ⟨g, j, none⟩ = some (.int .i64 x)) (hn : l.length = n) (hn2 : n ≤ 100000) (hk : l[k]? = some id) (hnd : l.Nodup) (hq : w.cell? ⟨bq, 0, none⟩ = some (.int .i64 id)) :
    Calls Try.prog 62 #[.slice (some ⟨g, 0, none⟩) n cap, .func (.func 54) #[] #[.pointer (some ⟨bq, 0, none⟩)]] w fun e w' => e = .returned (.int .i64 (k : Int)) ∧ w' = w := by
  have hkn : k < n := by
    obtain ⟨h1, _⟩ := List.getElem?_eq_some_iff.1 hk
    omega
  have C := hide (fun x => clo_any w bq id x hq)
  have HC := hide hc
  have HK := hide hk
  have HD := hide hnd
  have HN := hide hn
  clear hc hk hnd hn hq
  go_enter Try.func62, Try.ntmps62
  go_wp2
  go_loop [8] (fun d => ∃ j : Nat, d = .int .i64 (j : Int) ∧ j ≤ k) (fun d => k + 1 - (intOf d).toNat)
  case atStart => exact ⟨0, rfl, by omega⟩
  case round =>
    obtain ⟨j, rfl, hj⟩ := hrel
    obtain ⟨x, hx⟩ : ∃ x, l[j]? = some x := ⟨l[j]'(by rw [unhide HN]; omega), List.getElem?_eq_getElem _⟩
    have c := (unhide HC) j x hx
    have hjn : j < n := by omega
    by_cases hjk : j = k
    · subst hjk
      have hxx : x = id := by have := unhide HK; rw [hx] at this; cases this; rfl
      subst hxx
      have hb : (x == x) = true := by simp
      clear hx
      go_wp2_with (go_at_call 54; refine (unhide C _).mono ?_; rintro e w1 ⟨rfl, rfl⟩)
      go_ret
      exact ⟨rfl, rfl⟩
    · have hb : (x == id) = false := by rw [beq_eq_false_iff_ne]; exact nodup_ne (unhide HD) (unhide HK) hx (fun e => hjk e.symm)
      clear hx
      go_wp2_with (go_at_call 54; refine (unhide C _).mono ?_; rintro e w1 ⟨rfl, rfl⟩)
      go_round
      case rel => exact ⟨j + 1, by first | rfl | go_num, by omega⟩
      case measure => simp [intOf]; omega
end Go.Proofs.Ytkglaklkbodjkaa
