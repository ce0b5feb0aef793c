import Derived.Test.YtkglaklkbodjkaaWh15
namespace Go.Proofs.Ytkglaklkbodjkaa
open Go.RowKit Wh
set_option linter.unusedVariables false

/-- A row while what follows place k moves down by one: places below j are done. -/
def shf (k j : Nat) (l : List Int) (p : Nat) : Option Int := if k ≤ p ∧ p + 1 < j then l[p + 1]? else l[p]?
theorem shf_end {k n : Nat} {l : List Int} (hn : l.length = n) (hk : k < n) (p : Nat) (x : Int) (h : (l.eraseIdx k)[p]? = some x) : p < n - 1 ∧ shf k n l p = some x := by
  have hp : p < (l.eraseIdx k).length := (List.getElem?_eq_some_iff.1 h).1
  rw [List.length_eraseIdx, if_pos (by omega)] at hp
  refine ⟨by omega, ?_⟩
  unfold shf
  rw [List.getElem?_eraseIdx] at h
  split at h
  · rw [if_neg (by omega)]; exact h
  · rw [if_pos (by omega)]; exact h
theorem setCells1 (w : World) (b o : Nat) (z : Value) : w.setCells b o (List.replicate 1 z) = w.setCell ⟨b, o, none⟩ z := by
  rfl
set_option maxRecDepth 100000 in
set_option maxHeartbeats 2000000 in
theorem delf_any (w : World) (g n cap bq : Nat) (cur : Array Value) (l : List Int) (id : Int) (k : Nat) (hb : Blk w g 3 cur) (hc : ∀ (j : Nat) (x : Int), l[j]? = some x → cur[j]? = some (Value.int .i64 x)) (hn : l.length = n) (hn2 : n ≤ 100000) (hcs : n ≤ cur.size) (hnc : n ≤ cap)
    (hk : l[k]? = some id) (hnd : l.Nodup) (hq : w.cell? ⟨bq, 0, none⟩ = some (.int .i64 id)) (hne : bq ≠ g) :
    Calls Try.prog 53 #[.slice (some ⟨g, 0, none⟩) n cap, .func (.func 54) #[] #[.pointer (some ⟨bq, 0, none⟩)]] w fun e w' => e = .returned (.slice (some ⟨g, 0, none⟩) (n - 1) cap) ∧
      ∃ cur', Blk w' g 3 cur' ∧ cur'.size = cur.size ∧ (∀ (j : Nat) (x : Int), (l.eraseIdx k)[j]? = some x → cur'[j]? = some (Value.int .i64 x)) ∧ Tch g w w' := by
  have hkn : k < n := by
    obtain ⟨h1, _⟩ := List.getElem?_eq_some_iff.1 hk
    omega
  have hgl := hb.lt
  have CI := hide (idxf_any w g n cap bq l id k (fun j x hj => by rw [hb.cell]; exact hc j x hj) hn hn2 hk hnd hq)
  have QH := hide (fun w' (ht : Tch g w w') => show w'.cell? ⟨bq, 0, none⟩ = some (.int .i64 id) from by
    have hbl : bq < w.heap.size := World.block_lt_of_cell? w _ hq
    have e := ht.block bq hbl hne
    unfold World.cell? at hq ⊢
    simp only at hq ⊢
    rw [e]; exact hq)
  have HK := hide hk
  have HD := hide hnd
  have HN := hide hn
  have H0 : Hid (∃ cur', Blk w g 3 cur' ∧ cur'.size = cur.size ∧ (∀ (p : Nat) (x : Int), shf k (k + 1) l p = some x → cur'[p]? = some (Value.int .i64 x)) ∧ Tch g w w) := hide ⟨cur, hb, rfl, fun p x h => by
    unfold shf at h
    rw [if_neg (by omega)] at h
    exact hc p x h, Tch.refl _ _⟩
  have HS := hide hcs
  have hne1 : ((k : Int) == -1) = false := beq_eq_false_iff_ne.2 (by omega)
  clear hb hc hk hnd hn hq hcs
  go_enter Try.func53, Try.ntmps53
  go_wp2_with (go_at_call 62; refine (unhide CI).mono ?_; rintro e w1 ⟨rfl, rfl⟩)
  go_loopw [5, 6] (fun s5 s6 w' => ∃ i j : Nat, s5 = .int .i64 (i : Int) ∧ s6 = .int .i64 (j : Int) ∧ k ≤ i ∧ j = i + 1 ∧ j ≤ n ∧ Hid (∃ cur', Blk w' g 3 cur' ∧ cur'.size = cur.size ∧ (∀ (p : Nat) (x : Int), shf k j l p = some x → cur'[p]? = some (Value.int .i64 x)) ∧ Tch g w1 w')) (fun _ s6 _ => n - (intOf s6).toNat)
  case atStart => exact ⟨k, k + 1, rfl, by first | rfl | go_num, by omega, by omega, by omega, H0⟩
  case round =>
    obtain ⟨i, j, rfl, rfl, hki, hji, hjn, HI⟩ := hrel
    obtain ⟨cur', hb', hs', hc', ht'⟩ := unhide HI
    by_cases hl : j < n
    · obtain ⟨x, hx⟩ : ∃ x, l[j]? = some x := ⟨l[j]'(by rw [unhide HN]; omega), List.getElem?_eq_getElem _⟩
      obtain ⟨y, hy⟩ : ∃ y, l[i]? = some y := ⟨l[i]'(by rw [unhide HN]; omega), List.getElem?_eq_getElem _⟩
      have cj : wr.cell? ⟨g, j, none⟩ = some (.int .i64 x) := by
        rw [hb'.cell]
        refine hc' j x ?_
        unfold shf
        rw [if_neg (by omega)]; exact hx
      have ci : wr.cell? ⟨g, i, none⟩ = some (.int .i64 y) := by
        rw [hb'.cell]
        refine hc' i y ?_
        unfold shf
        rw [if_neg (by omega)]; exact hy
      have fi := hb'.free i
      have C := hide (clo_any wr bq id x (unhide QH wr ht'))
      have hbx : (x == id) = false := by rw [beq_eq_false_iff_ne]; exact nodup_ne (unhide HD) (unhide HK) hx (by omega)
      have HX : Hid (∃ cur2, Blk (wr.setCell ⟨g, i, none⟩ (.int .i64 x)) g 3 cur2 ∧ cur2.size = cur.size ∧ (∀ (p : Nat) (x : Int), shf k (j + 1) l p = some x → cur2[p]? = some (Value.int .i64 x)) ∧ Tch g w1 (wr.setCell ⟨g, i, none⟩ (.int .i64 x))) := hide ⟨_, hb'.put i _, by rw [Array.size_setIfInBounds]; exact hs', fun p z hz => by
        rw [Array.getElem?_setIfInBounds]
        by_cases e : i = p
        · subst e
          unfold shf at hz
          rw [if_pos (by omega), ← hji, hx] at hz
          cases hz
          rw [if_pos rfl, if_pos (by have := unhide HS; omega)]
        · rw [if_neg e]
          refine hc' p z ?_
          unfold shf at hz ⊢
          by_cases e2 : k ≤ p ∧ p + 1 < j
          · rw [if_pos e2]; rw [if_pos (by omega)] at hz; exact hz
          · rw [if_neg e2]; rw [if_neg (by omega)] at hz; exact hz, ht'.set i _⟩
      have hin : i < n := by omega
      have HJ := hide hji
      clear hx hy hb' hs' hc' ht' HI H0 hji
      go_wp2_with (go_at_call 54; refine (unhide C).mono ?_; rintro e w2 ⟨rfl, rfl⟩)
      go_roundw
      case rel => exact ⟨i + 1, j + 1, by first | rfl | go_num, by first | rfl | go_num, by omega, by have := unhide HJ; omega, by omega, HX⟩
      case measure => simp [intOf]; omega
    · have hj2 : j = n := by omega
      subst hj2
      subst hji
      obtain ⟨y, hy⟩ : ∃ y, l[i]? = some y := ⟨l[i]'(by rw [unhide HN]; omega), List.getElem?_eq_getElem _⟩
      have ci : wr.cell? ⟨g, i, none⟩ = some (.int .i64 y) := by
        rw [hb'.cell]
        refine hc' i y ?_
        unfold shf
        rw [if_neg (by omega)]; exact hy
      have clr : ∀ ty c, (Builtin.clear_ #[35] ty #[.slice (some ⟨g, i, none⟩) 1 c]).run Try.prog wr = .ok (.tuple #[]) (wr.setCell ⟨g, i, none⟩ (.int .i64 0)) := fun ty c =>
        Go.Lib.run_clear_slice wr 35 3 ty (.int .i64 0) Try.underlying35 zeroInt rfl rfl g i 1 c (by omega) (fun q hq => by
          obtain rfl : q = 0 := by omega
          rw [Nat.add_zero, ci]; rfl) (fun q hq => by
          obtain rfl : q = 0 := by omega
          exact hb'.free _)
      have HX : Hid (∃ cur2, Blk (wr.setCell ⟨g, i, none⟩ (.int .i64 0)) g 3 cur2 ∧ cur2.size = cur.size ∧ (∀ (p : Nat) (x : Int), (l.eraseIdx k)[p]? = some x → cur2[p]? = some (Value.int .i64 x)) ∧ Tch g w1 (wr.setCell ⟨g, i, none⟩ (.int .i64 0))) := hide ⟨_, hb'.put i _, by rw [Array.size_setIfInBounds]; exact hs', fun p z hz => by
        obtain ⟨h1, h2⟩ := shf_end (unhide HN) hkn p z hz
        rw [Array.getElem?_setIfInBounds, if_neg (by omega)]
        exact hc' p z h2, ht'.set i _⟩
      clear hy hb' hs' hc' ht' HI H0 ci hl hjn
      go_wp2
      go_ret
      obtain ⟨cur2, k1, k2, k3, k4⟩ := unhide HX
      exact ⟨rfl, cur2, k1, k2, k3, k4⟩
end Go.Proofs.Ytkglaklkbodjkaa
