/- A processor comes. -/
import Derived.Test.YtjjdkkdnlnbedaaGreatEn8b
namespace Go.Proofs.YtjjdkkdnlnbedaaGreat
open Go.RowKit Kt Qu
set_option linter.unusedVariables false
section
variable {w w' : World} {l : Loc} {e : En}
theorem Es.don (h : Es w l e) {i : Nat} (hi : i < e.n) : Calls Tryz.prog 79 #[.pointer (some ⟨l.d i, 0, none⟩)] w fun r w' => r = .returned (.tuple #[]) ∧ Es w' l (e.set i { e.cp i with on := true }) ∧ Ft (efoot l) w w' := by
  refine (on_any w (h.dv i hi)).mono ?_
  rintro r w2 ⟨rfl, hD, ht⟩
  exact ⟨rfl, h.devd hi hD (Ft.of_tch ht) rfl rfl rfl, (Ft.of_tch ht).mono fun k hk => ⟨_, hk ▸ h.od i hi⟩⟩
set_option maxRecDepth 20000 in
set_option maxHeartbeats 1000000 in
theorem enter_any (h : Es w l e) (cpu : Int) : Calls Tryz.prog 42 #[.pointer (some ⟨l.g, 0, none⟩), .int .i64 cpu] w fun r w' => r = .returned (.int .i64 (e.enter cpu).1) ∧ Es w' l (e.enter cpu).2 ∧ Ft (efoot l) w w' := by
  have g1 : w.cell? ⟨l.g, 1, none⟩ = some (.slice (some ⟨l.r, 0, none⟩) e.n l.cap) := blkAt h.box 1 _ rfl
  have g2 : w.cell? ⟨l.g, 2, none⟩ = some (.int .u32 (e.M : Int)) := blkAt h.box 2 _ rfl
  have CH := fun w' => hide (h.has cpu w')
  have HH := hide h
  have hle := h.n16
  have hcap := h.cap
  by_cases h0 : cpu < 0
  · have E : e.enter cpu = (2, e) := if_pos (.inl h0)
    rw [E]
    clear h E
    go_enter Tryz.func42, Tryz.ntmps42
    go_wp2_with fail
    go_ret
    exact ⟨rfl, unhide HH, Ft.refl _ _⟩
  obtain ⟨i, rfl⟩ : ∃ i : Nat, cpu = (i : Int) := ⟨cpu.toNat, by omega⟩
  obtain ⟨n, hn⟩ : ∃ n, e.n = n := ⟨_, rfl⟩
  rw [hn] at hle hcap g1
  by_cases h1 : n ≤ i
  · have E : e.enter (i : Int) = (2, e) := if_pos (.inr (by rw [hn]; omega))
    rw [E]
    have h2 : (n : Int) ≤ (i : Int) := by omega
    clear h E hn
    go_enter Tryz.func42, Tryz.ntmps42
    go_wp2_with fail
    go_ret
    exact ⟨rfl, unhide HH, Ft.refl _ _⟩
  have h2 : ¬ (n : Int) ≤ (i : Int) := by omega
  have hnE : ¬ ((i : Int) < 0 ∨ (e.n : Int) ≤ (i : Int)) := by rw [hn]; omega
  by_cases hon : e.on (i : Int) = true
  · have E : e.enter (i : Int) = (8, e) := by unfold En.enter; rw [if_neg hnE, if_pos hon]
    rw [E]
    rw [hon] at CH
    clear h E hn hnE hon
    generalize (e.M : Int) = M at *
    go_enter Tryz.func42, Tryz.ntmps42
    go_wp2_with (go_at_call 61; refine (unhide (CH _)).mono ?_; rintro r w1 ⟨rfl, rfl⟩)
    go_ret
    exact ⟨rfl, unhide HH, Ft.refl _ _⟩
  · have hon2 : e.on (i : Int) = false := by simpa using hon
    have E : e.enter (i : Int) = (0, { e.set i { e.cp i with on := true } with M := e.M ||| Mk.oneN (i : Int) }) := by
      unfold En.enter
      rw [if_neg hnE, if_neg hon]
      unfold En.set
      congr 2
      funext j
      simp only [Int.toNat_natCast]
      by_cases q : j = i
      · subst q; simp
      · simp [q]
    rw [E]
    rw [hon2] at CH
    have r1 := (h.row i (by omega)).2.1
    have CO := hide (h.don (i := i) (by omega))
    have hM2 : (e.M ||| Mk.oneN (i : Int)) < 65536 := Nat.or_lt_two_pow (n := 16) h.M16 (Mk.oneN_lt _)
    obtain ⟨E1, hE1⟩ : ∃ E1, E1 = e.set i { e.cp i with on := true } := ⟨_, rfl⟩
    rw [← hE1] at CO
    have hor : bits .or .u32 (e.M : Int) (((0 ||| Mk.oneN (i : Int) : Nat)) : Int) = ((e.M ||| Mk.oneN (i : Int) : Nat) : Int) := by
      rw [Nat.zero_or]
      exact Mk.bits_or_u32 _ _ (by have := h.M16; omega) (by have := Mk.oneN_lt (i : Int); omega)
    have hE1M : E1.M = e.M := by rw [hE1]; rfl
    have HG := hide (fun w2 (h2 : Es w2 l E1) => And.intro (blkAt h2.box 2 (.int .u32 (E1.M : Int)) rfl) (show ∀ j, w2.frozen? ⟨l.g, j, none⟩ = false from fun j => h2.box.free j))
    have HS := hide (fun w2 (h2 : Es w2 l E1) => h2.setM _ hM2)
    rw [← hE1]
    rw [hE1M] at HG
    have HB := hide (fun w2 (h2 : Es w2 l E1) (o : Obj) => And.intro (blkAt ((h2.below (one_below w2 o)).box) 2 (.int .u32 (E1.M : Int)) rfl) (show ∀ j, (w2.alloc o).frozen? ⟨l.g, j, none⟩ = false from fun j => (h2.below (one_below w2 o)).box.free j))
    rw [hE1M] at HB
    generalize h1N : e.M ||| Mk.oneN (i : Int) = M2 at *
    have hof : Mk.ofN (fun _ => (i : Int)) 1 = 0 ||| Mk.oneN (i : Int) := rfl
    have COF := hide (fun (w2 : World) (B : Nat) (hc : w2.cell? ⟨B, 0, none⟩ = some (.int .i64 (i : Int))) => Mk.of_any (some ⟨B, 0, none⟩) 1 1 (fun _ => (i : Int)) w2 (by omega) (fun q hq => ⟨_, rfl, by
      obtain rfl : q = 0 := by omega
      exact hc⟩))
    rw [hof] at COF
    generalize (0 ||| Mk.oneN (i : Int) : Nat) = MO at *
    generalize (e.M : Int) = M at *
    generalize l.d i = di at *
    have hi : i < n := by omega
    clear h E hn hnE hon hon2 hE1 hE1M h1N hof
    go_enter Tryz.func42, Tryz.ntmps42
    go_wp2_with (first | (go_at_call 61; refine (unhide (CH _)).mono ?_; rintro r w1 ⟨rfl, rfl⟩) | (go_at_call 79; refine Hid.out ?_))
    refine hide ?_
    refine (unhide CO).mono ?_
    rintro r w2 ⟨rfl, h2, f2⟩
    obtain ⟨B, hB⟩ : ∃ b, w2.heap.size = b := ⟨_, rfl⟩
    have d0 : w2.drew.cell? ⟨l.g, 2, none⟩ = some (.int .u32 M) := (unhide HG w2 h2).1
    have d1 : ∀ o, (w2.alloc o).drew.cell? ⟨l.g, 2, none⟩ = some (.int .u32 M) := fun o => (unhide HB w2 h2 o).1
    have d2 : ∀ o j, (w2.alloc o).drew.frozen? ⟨l.g, j, none⟩ = false := fun o j => (unhide HB w2 h2 o).2 j
    have d3 : ∀ j, w2.drew.frozen? ⟨l.g, j, none⟩ = false := fun j => (unhide HG w2 h2).2 j
    have COF2 := hide (unhide COF (w2.alloc (.cells #[.int .i64 (i : Int)] 3)).drew B (blkAt (show Blk (w2.alloc (.cells #[.int .i64 (i : Int)] 3)).drew B 3 #[.int .i64 (i : Int)] from Blk.new_at _ _ _ hB.symm) 0 _ rfl))
    have H2 := hide (And.intro h2 f2)
    clear h2 f2 CO HG HB COF
    go_wp2_with fail
    go_region_with (go_at_call 26; refine (unhide COF2).mono ?_; rintro r w5 ⟨rfl, rfl⟩)
    all_goals go_wp2_with fail
    all_goals
      go_ret
      have h3 := (unhide H2).1.below (below_drew (one_below w2 (.cells #[.int .i64 (i : Int)] 3)))
      have f3 : Ft (efoot l) w2 (w2.alloc (.cells #[.int .i64 (i : Int)] 3)).drew := Ft.of_below _ (below_drew (one_below _ _))
      exact ⟨rfl, unhide HS _ h3, ((unhide H2).2.trans f3).trans ((ft_set1 _ l.g 2 _).mono fun k hk => ⟨_, hk ▸ h3.og⟩)⟩
end
end Go.Proofs.YtjjdkkdnlnbedaaGreat
