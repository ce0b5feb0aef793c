import Derived.Test.YtkglaklkbodjkaaWh14
namespace Go.Proofs.Ytkglaklkbodjkaa
open Go.RowKit Wh
set_option linter.unusedVariables false

/-- How many slots ahead an item of a level is. -/
theorem lev_ahead {now t j : Nat} (h : now < t) (h2 : t ≤ now + 65535) (hj : lev now t = j) : ∃ a, a < 16 ∧ dig t j = (dig now j + 1 + a) % 16 ∧ t / 16 ^ j = now / 16 ^ j + 1 + a := by
  subst hj
  have h3 := lev_le now t
  unfold lev at *
  unfold dig
  by_cases c0 : t / 16 = now / 16
  · rw [if_pos c0]
    refine ⟨t - now - 1, ?_, ?_, ?_⟩ <;> (try simp) <;> omega
  · rw [if_neg c0]
    by_cases c1 : t / 256 = now / 256
    · rw [if_pos c1]
      refine ⟨t / 16 - now / 16 - 1, ?_, ?_, ?_⟩ <;> (try simp) <;> omega
    · rw [if_neg c1]
      by_cases c2 : t / 4096 = now / 4096
      · rw [if_pos c2]
        refine ⟨t / 256 - now / 256 - 1, ?_, ?_, ?_⟩ <;> (try simp) <;> omega
      · rw [if_neg c2]
        refine ⟨t / 4096 - now / 4096 - 1, ?_, ?_, ?_⟩ <;> (try simp) <;> omega
theorem lev_order {now t u : Nat} (h : now < t) (h2 : now < u) (hl : lev now t < lev now u) : t < u := by
  unfold lev at hl
  by_cases c0 : t / 16 = now / 16
  · by_cases d0 : u / 16 = now / 16
    · rw [if_pos c0, if_pos d0] at hl; omega
    · omega
  · by_cases c1 : t / 256 = now / 256
    · by_cases d1 : u / 256 = now / 256
      · rw [if_neg c0, if_pos c1] at hl
        by_cases d0 : u / 16 = now / 16
        · rw [if_pos d0] at hl; omega
        · rw [if_neg d0, if_pos d1] at hl; omega
      · omega
    · by_cases c2 : t / 4096 = now / 4096
      · by_cases d2 : u / 4096 = now / 4096
        · rw [if_neg c0, if_neg c1, if_pos c2] at hl
          by_cases d0 : u / 16 = now / 16
          · rw [if_pos d0] at hl; omega
          · rw [if_neg d0] at hl
            by_cases d1 : u / 256 = now / 256
            · rw [if_pos d1] at hl; omega
            · rw [if_neg d1, if_pos d2] at hl; omega
        · omega
      · rw [if_neg c0, if_neg c1, if_neg c2] at hl
        have := lev_le now u
        unfold lev at this
        omega
theorem div_order {c t u : Nat} (h : t / c < u / c) : t < u := by
  by_cases e : t < u
  · exact e
  · have := Nat.div_le_div_right (c := c) (show u ≤ t by omega)
    omega
/-- The least of some ticks. -/
structure Least (m : Nat) (l : List Int) (d : Int → Nat) : Prop where
  mem : ∃ x ∈ l, d x = m
  le : ∀ x ∈ l, m ≤ d x
section
variable {B H Mb now n : Nat} {sv : Nat → Value} {sl : Nat → List Int} {f : Int → Option Int} {sz : Nat}
set_option maxRecDepth 100000 in
set_option maxHeartbeats 1000000 in
theorem soon_any (w : World) (h : Whl w B H Mb now n f sz sv sl) (g len cap : Nat) (l : List Int) (d : Int → Nat) (hc : ∀ (j : Nat) (x : Int), l[j]? = some x → w.cell? ⟨g, j, none⟩ = some (.int .i64 x)) (hlen : l.length = len) (h0 : 0 < len) (hl2 : len ≤ 100000)
    (hd : ∀ x ∈ l, isI x ∧ f x = some ((d x : Nat) : Int)) :
    Calls Try.prog 57 #[.pointer (some ⟨H, 0, none⟩), .slice (some ⟨g, 0, none⟩) len cap] w fun e w' => ∃ m, e = .returned (.int .i64 (m : Nat)) ∧ Least m l d ∧ ∃ k, w' = w.drewN k := by
  have c1 := h.c1
  obtain ⟨x0, hx0⟩ : ∃ x, l[0]? = some x := ⟨l[0]'(by omega), List.getElem?_eq_getElem _⟩
  have q0 := hc 0 x0 hx0
  have hm0 := List.mem_of_getElem? hx0
  have hlk := hide (fun k x (hx : x ∈ l) => show (Instr.lookup 48 (.map (some Mb)) (.int .i64 x) false).run Try.prog (w.drewN k) = .ok (.int .i64 ((d x : Nat) : Int)) (w.drewN k) from by
    have := (h.below (below_drewN w k)).mp.look x (hd x hx).1
    rw [(hd x hx).2] at this
    simpa using this)
  have lk0 := fun k => (unhide hlk) k x0 hm0
  have HC := hide hc
  have HL := hide hlen
  have HM0 := hide (And.intro hx0 hm0)
  obtain ⟨d0, hd0⟩ : ∃ m, d x0 = m := ⟨_, rfl⟩
  rw [hd0] at lk0
  have HD0 := hide hd0
  clear h hc hlen hd hx0 hm0 hd0
  go_enter Try.func57, Try.ntmps57
  go_wp2
  go_quiet (fail)
  go_wp2
  go_loopw [5, 18] (fun s5 s18 w' => ∃ m j k : Nat, s5 = .int .i64 (m : Int) ∧ s18 = .int .i64 (j : Int) ∧ j ≤ len ∧ w' = w.drewN k ∧ Hid ((∃ x ∈ l, d x = m) ∧ ∀ (p : Nat) (x : Int), p < j → l[p]? = some x → m ≤ d x)) (fun _ s18 _ => len - (intOf s18).toNat)
  case atStart => exact ⟨d0, 0, nq, rfl, rfl, by omega, rfl, hide ⟨⟨x0, (unhide HM0).2, unhide HD0⟩, fun p x hp => by omega⟩⟩
  case round =>
    obtain ⟨m, j, k, rfl, rfl, hj, rfl, HI⟩ := hrel
    by_cases hlt : j < len
    · obtain ⟨x, hx⟩ : ∃ x, l[j]? = some x := ⟨l[j]'(by rw [unhide HL]; exact hlt), List.getElem?_eq_getElem _⟩
      have q1 := (unhide HC) j x hx
      have hxm := List.mem_of_getElem? hx
      have lk := (unhide hlk) k x hxm
      have HX := hide (And.intro hx hxm)
      obtain ⟨dx, hdx⟩ : ∃ e, d x = e := ⟨_, rfl⟩
      rw [hdx] at lk
      have HDX := hide hdx
      clear hx hxm hdx q0 lk0
      by_cases hle : m ≤ dx
      · have HN : Hid ((∃ x ∈ l, d x = m) ∧ ∀ (p : Nat) (x : Int), p < j + 1 → l[p]? = some x → m ≤ d x) := hide ⟨(unhide HI).1, fun p y hp hy => by
          by_cases e : p = j
          · subst e
            have h1 := (unhide HX).1
            rw [hy] at h1
            cases h1
            rw [unhide HDX]; exact hle
          · exact (unhide HI).2 p y (by omega) hy⟩
        have hmn : min (m : Int) (dx : Int) = (m : Int) := by omega
        clear HI
        go_wp2
        go_roundw
        case rel => exact ⟨m, j + 1, k, rfl, by first | rfl | go_num, by omega, rfl, HN⟩
        case measure => simp [intOf]; omega
      · have HN : Hid ((∃ x ∈ l, d x = dx) ∧ ∀ (p : Nat) (x : Int), p < j + 1 → l[p]? = some x → dx ≤ d x) := hide ⟨⟨x, (unhide HX).2, unhide HDX⟩, fun p y hp hy => by
          by_cases e : p = j
          · subst e
            have h1 := (unhide HX).1
            rw [hy] at h1
            cases h1
            rw [unhide HDX]; exact Nat.le_refl _
          · have := (unhide HI).2 p y (by omega) hy
            omega⟩
        have hmn : min (m : Int) (dx : Int) = (dx : Int) := by omega
        clear HI
        go_wp2
        go_roundw
        case rel => exact ⟨dx, j + 1, k, rfl, by first | rfl | go_num, by omega, rfl, HN⟩
        case measure => simp [intOf]; omega
    · have hjl : j = len := by omega
      subst hjl
      have HE : Hid (Least m l d) := hide ⟨(unhide HI).1, fun x hx => by
        obtain ⟨p, hp, he⟩ := List.getElem_of_mem hx
        exact (unhide HI).2 p x (by rw [unhide HL] at hp; exact hp) (by rw [List.getElem?_eq_getElem hp, he])⟩
      clear HI hlt hj q0 lk0
      go_wp2
      go_ret
      exact ⟨m, rfl, unhide HE, k, rfl⟩
end
end Go.Proofs.Ytkglaklkbodjkaa
