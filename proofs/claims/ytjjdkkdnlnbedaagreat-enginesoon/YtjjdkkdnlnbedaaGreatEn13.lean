/- A new engine. -/
import Derived.Test.YtjjdkkdnlnbedaaGreatEn12
import Derived.Deep.AppendLies
namespace Go.Proofs.YtjjdkkdnlnbedaaGreat
open Go.RowKit Kt Qu
set_option linter.unusedVariables false

/-- A processor's parts, when it is new. -/
structure Pr where
  b : Nat
  d : Nat
def prc (t : Pr) : List Value := [.pointer (some ⟨t.b, 0, none⟩), .pointer (some ⟨t.d, 0, none⟩), .bool false, .bool false]
theorem prInfo : (Tryz.prog.info? 71).map (fun i => (i.zero, i.size, i.bytes)) = some (some (.agg #[.pointer none, .pointer none, .bool false, .bool false]), 4, 24) := by kernel_rfl
def rpr : Rec Tryz.prog Pr where
  e := 71
  ty := 63
  K := 4
  bytes := 24
  z := .agg #[.pointer none, .pointer none, .bool false, .bool false]
  c := prc
  pos := by decide
  len := fun _ => rfl
  one := by
    intro x u hu
    simp only [prc, List.mem_cons, List.not_mem_nil, or_false] at hu
    rcases hu with rfl | rfl | rfl | rfl <;> rfl
  und := Tryz.underlying63
  info := rparts prInfo
  hz := rfl
  hb := by decide
set_option maxRecDepth 20000 in
theorem new_bad1 (cpus le gr : Int) (w : World) (h : cpus < 1 ∨ 16 < cpus) : Calls Tryz.prog 9 #[.int .i64 cpus, .int .i64 le, .int .i64 gr] w fun r w' => r = .returned (.pointer none) ∧ w' = w := by
  by_cases h1 : cpus < 1
  · clear h
    go_enter Tryz.func9, Tryz.ntmps9
    go_wp2_with fail
    go_ret
    exact ⟨rfl, rfl⟩
  · have h2 : 16 < cpus := by omega
    clear h
    go_enter Tryz.func9, Tryz.ntmps9
    go_wp2_with fail
    go_ret
    exact ⟨rfl, rfl⟩
set_option maxRecDepth 20000 in
theorem new_bad2 (cpus le gr : Int) (w : World) (h1 : 1 ≤ cpus) (h2 : cpus ≤ 16) (h : ¬ (0 ≤ le ∧ le ≤ gr ∧ 1 ≤ gr ∧ gr ≤ 1099511627776)) : Calls Tryz.prog 9 #[.int .i64 cpus, .int .i64 le, .int .i64 gr] w fun r w' => r = .returned (.pointer none) ∧ w' = w := by
  have CD := hide (dnew_bad le gr w h)
  clear h
  go_enter Tryz.func9, Tryz.ntmps9
  go_wp2_with (go_at_call 23; refine (unhide CD).mono ?_; rintro r w1 ⟨rfl, rfl⟩)
  go_ret
  exact ⟨rfl, rfl⟩
theorem own_ne {w : World} {D : Nat} {v : Value} {L : List Pr} (h : Rg rpr w D v L) {b : Nat} {t : TypeId} {cs : Array Value} (k : Blk w b t cs) (ht : t ≠ 71) {r : Nat} (hr : v.ownBlock = some r) : r ≠ b := by
  rcases h.2 with ⟨h2, -⟩ | ⟨g, cap, cur, h1, h2, h3, h4⟩
  · rw [h2] at hr; cases hr
  · rw [h1] at hr
    have e : g = r := by cases hr; rfl
    subst e
    intro q
    subst q
    unfold Blk at k
    rw [h3] at k
    injection k with k
    injection k with k1 k2 k3
    exact ht k2.symm
/-- What is there when j processors are. -/
structure NJ (w0 : World) (D g c : Nat) (le gr : Int) (j M : Nat) (a : Option Addr) (cap : Nat) (L : List Pr) (w : World) : Prop where
  box : Blk w g 67 #[.pointer (some ⟨c, 0, none⟩), .slice a j cap, .int .u32 (M : Int)]
  clk : Clk w c 0 0 0 0 false 0
  row : Rg rpr w D (.slice a j cap) L
  len : L.length = j
  low : Below w0.heap.size w0 w
  gc : w0.heap.size ≤ c ∧ c < g ∧ g < D
  bs : ∀ x ∈ L, Bs w x.b 0 (fun _ => none) (fun _ => []) ∧ Dev w x.d le gr true false 0 false ∧ D ≤ x.b ∧ x.b < x.d
  inc : L.Pairwise (fun x y => x.d < y.b)
section
variable {w0 : World} {g c : Nat} {le gr : Int} {j M : Nat} {a a7 : Option Addr} {cap cap7 : Nat} {L : List Pr} {w : World}
theorem NJ.half {w5 w6 w7 : World} {b5 d6 : Nat} (hJ : NJ w0 (g + 1) g c le gr j M a cap L w) (hB5 : Bs w5 b5 0 (fun _ => none) (fun _ => [])) (bb5 : Below w.heap.size w w5) (eb5 : b5 = w.heap.size) (hD6 : Dev w6 d6 le gr true false 0 false) (bd6 : Below w5.heap.size w5 w6) (hd6 : w5.heap.size = d6)
    (G7 : (w6.alloc (.cells #[.pointer (some ⟨b5, 0, none⟩), .pointer (some ⟨d6, 0, none⟩), .bool false, .bool false] 71)).grownBy w7 (Value.slice a j cap).ownBlock) (o7 : Rg rpr w7 (g + 1) (.slice a7 (j + 1) cap7) (L ++ [⟨b5, d6⟩])) :
    NJ w0 (g + 1) g c le gr (j + 1) M a7 cap7 (L ++ [⟨b5, d6⟩]) (w7.setCell ⟨g, 1, none⟩ (.slice a7 (j + 1) cap7)) := by
  have B6 : Below w.heap.size w w6 := bb5.trans (bd6.mono bb5.size)
  have hgo : ∀ q, (Value.slice a j cap).ownBlock = some q → g + 1 ≤ q ∧ q < w.heap.size := fun q hq => hJ.row.lt q hq
  have hgl := hJ.box.lt
  obtain ⟨gc1, gc2, -⟩ := hJ.gc
  obtain ⟨F, hF⟩ : ∃ F : Nat → Prop, F = fun k => k = g ∨ (Value.slice a j cap).ownBlock = some k := ⟨_, rfl⟩
  have f67 : Ft F w6 w7 := ((Ft.of_below F (one_below w6 _)).trans ((Ft.refl F _).grown G7 fun q hq => .inl (by rw [hF]; exact .inr hq)))
  have f7 : ∀ v, Ft F w7 (w7.setCell ⟨g, 1, none⟩ v) := fun v => (Ft.refl F w7).set (.inl (by rw [hF]; exact .inl rfl)) 1 v
  have f5 : Ft F w5 (w7.setCell ⟨g, 1, none⟩ (.slice a7 (j + 1) cap7)) := ((Ft.of_below F bd6).trans f67).trans (f7 _)
  have f6 : Ft F w6 (w7.setCell ⟨g, 1, none⟩ (.slice a7 (j + 1) cap7)) := f67.trans (f7 _)
  have f0 : Ft F w (w7.setCell ⟨g, 1, none⟩ (.slice a7 (j + 1) cap7)) := (Ft.of_below F B6).trans f6
  have k7 : Blk w7 g 67 #[.pointer (some ⟨c, 0, none⟩), .slice a j cap, .int .u32 (M : Int)] := ((hJ.box.below B6 hJ.box.lt).alloc _).grownR G7 (fun e => by have := (hgo g e.symm).1; omega)
  have b5l := hB5.blk.lt
  have nF : ∀ k, k < w.heap.size → k ≠ g → (∀ q, (Value.slice a j cap).ownBlock = some q → q ≠ k) → ¬ F k := fun k _ h2 h3 => by
    rw [hF]
    rintro (q | q)
    · exact h2 q
    · exact h3 k q rfl
  have nN : ∀ k, w.heap.size ≤ k → ¬ F k := fun k hk => by
    rw [hF]
    rintro (q | q)
    · omega
    · have := (hgo k q).2; omega
  refine ⟨k7.put 1 _, hJ.clk.ft f0 (nF c (by omega) (by omega) fun q hq => by have := (hgo q hq).1; omega), o7.keep fun q hq => Below.heap_setCell _ _ _ _ (by have := (o7.lt q hq).1; intro e; have e' : q = g := e; omega), by rw [List.length_append, hJ.len]; rfl,
    hJ.low.trans ((Ft.low (Below.refl _ w) f0 (fun k hk => by
      rw [hF] at hk
      rcases hk with q | q
      · omega
      · have := (hgo k q).1; omega) hJ.low.size)), hJ.gc, fun x hx => ?_, ?_⟩
  · rcases List.mem_append.1 hx with hx | hx
    · obtain ⟨h1, h2, h3, h4⟩ := hJ.bs x hx
      have hb := nF x.b h1.blk.lt (by omega) fun q hq => own_ne hJ.row h1.blk (by decide) hq
      exact ⟨h1.ft f0 (fun k hk => by
        rcases hk with rfl | ⟨i, -, hk⟩
        · exact hb
        · exact hk.elim), h2.ft f0 (nF x.d (Blk.lt h2) (by omega) fun q hq => own_ne hJ.row h2 (by decide) hq), h3, h4⟩
    · simp only [List.mem_cons, List.not_mem_nil, or_false] at hx
      subst hx
      exact ⟨hB5.ft f5 (fun k hk => by
        rcases hk with rfl | ⟨i, -, hk⟩
        · exact nN _ (by omega)
        · exact hk.elim), hD6.ft f6 (nN d6 (by have := bb5.size; omega)), by show g + 1 ≤ b5; omega, by show b5 < d6; omega⟩
  · refine List.pairwise_append.2 ⟨hJ.inc, by simp, fun x hx y hy => ?_⟩
    simp only [List.mem_cons, List.not_mem_nil, or_false] at hy
    subst hy
    have := Blk.lt (hJ.bs x hx).2.1
    show x.d < b5
    omega
theorem NJ.mask {w' : World} (hJ : NJ w0 (g + 1) g c le gr j M a cap L w) (hb : Below w.heap.size w w') (M' : Nat) : NJ w0 (g + 1) g c le gr j M' a cap L (w'.setCell ⟨g, 2, none⟩ (.int .u32 (M' : Int))) := by
  have f0 : Ft (fun k => k = g) w (w'.setCell ⟨g, 2, none⟩ (.int .u32 (M' : Int))) := Ft.set (F := fun k => k = g) (Ft.of_below _ hb) (.inl rfl) _ _
  have hgl := hJ.box.lt
  obtain ⟨gc1, gc2, -⟩ := hJ.gc
  refine ⟨(hJ.box.below hb hJ.box.lt).put 2 _, hJ.clk.ft f0 (by omega), hJ.row.ft f0 fun q hq => by have := (hJ.row.lt q hq).1; omega, hJ.len,
    hJ.low.trans (Ft.low (Below.refl _ w) f0 (fun k hk => by have e : k = g := hk; omega) hJ.low.size), hJ.gc, fun x hx => ?_, hJ.inc⟩
  obtain ⟨h1, h2, h3, h4⟩ := hJ.bs x hx
  exact ⟨h1.ft f0 (fun k hk => by
    rcases hk with rfl | ⟨i, -, hk⟩
    · show ¬ x.b = g; omega
    · exact hk.elim), h2.ft f0 (show ¬ x.d = g by omega), h3, h4⟩
theorem NJ.fin {n : Nat} (hJ : NJ w0 (g + 1) g c le gr n (2 ^ n - 1) a cap L w) (h1 : 1 ≤ n) (h2 : n ≤ 16) : ∃ l : Loc, l.g = g ∧ Es w l (enNew n le gr) ∧ l.m = 0 ∧ ∀ k, efoot l k → w0.heap.size ≤ k := by
  obtain ⟨gc1, gc2, -⟩ := hJ.gc
  have hl := hJ.len
  obtain ⟨r, cur, hr1, hr2, hr3, hr4, hr5⟩ : ∃ r cur, a = some ⟨r, 0, none⟩ ∧ g + 1 ≤ r ∧ Blk w r 71 cur ∧ n ≤ cap ∧ cap ≤ maxLen := by
    rcases hJ.row.2 with ⟨q, q2⟩ | ⟨r, cap', cur, q1, q2, q3, q4, q5, -⟩
    · rw [hl] at q2; omega
    · cases q1
      exact ⟨r, cur, rfl, q2, q3, by omega, q5⟩
  subst hr1
  have hat : ∀ i, i < n → ∃ x, L[i]? = some x ∧ x ∈ L := fun i hi => ⟨_, List.getElem?_eq_getElem (by rw [hl]; exact hi), List.getElem_mem _⟩
  obtain ⟨z0, hz0⟩ : ∃ z0 : Pr, z0 = ⟨0, 0⟩ := ⟨_, rfl⟩
  have hget : ∀ i, i < n → L[i]? = some (L.getD i z0) ∧ L.getD i z0 ∈ L := fun i hi => by
    obtain ⟨x, hx, hm⟩ := hat i hi
    have : L.getD i z0 = x := by rw [List.getD_eq_getElem?_getD, hx]; rfl
    rw [this]; exact ⟨hx, hm⟩
  have hcell : ∀ i, i < n → ∀ k u, (prc (L.getD i z0))[k]? = some u → w.cell? ⟨r, i * 4 + k, none⟩ = some u := fun i hi k u hu => by
    obtain ⟨a', cap', hf, -, -, hc⟩ := hJ.row.form
    obtain ⟨g', hg', hc2⟩ := hc i _ (hget i hi).1
    cases hf
    cases hg'
    exact hc2 k u hu
  have hinc : ∀ i j, i < j → j < n → (L.getD i z0).d < (L.getD j z0).b := fun i j hij hj => by
    have h := List.pairwise_iff_getElem.1 hJ.inc i j (by omega) (by omega) hij
    have e1 : L.getD i z0 = L[i]'(by omega) := by rw [List.getD_eq_getElem?_getD, List.getElem?_eq_getElem (by omega)]; rfl
    have e2 : L.getD j z0 = L[j]'(by omega) := by rw [List.getD_eq_getElem?_getD, List.getElem?_eq_getElem (by omega)]; rfl
    rw [e1, e2]; exact h
  have hbd : ∀ i, i < n → Bs w (L.getD i z0).b 0 (fun _ => none) (fun _ => []) ∧ Dev w (L.getD i z0).d le gr true false 0 false ∧ g + 1 ≤ (L.getD i z0).b ∧ (L.getD i z0).b < (L.getD i z0).d := fun i hi => hJ.bs _ (hget i hi).2
  have hne : ∀ i, i < n → r ≠ (L.getD i z0).b ∧ r ≠ (L.getD i z0).d := fun i hi => ⟨own_ne hJ.row (hbd i hi).1.blk (by decide) rfl, own_ne hJ.row (hbd i hi).2.1 (by decide) rfl⟩
  obtain ⟨ow, how⟩ : ∃ ow : Nat → Nat → Prop, ow = fun k p => (p = 0 ∧ k = g) ∨ (p = 1 ∧ k = r) ∨ (p = 2 ∧ k = c) ∨ ∃ i, i < n ∧ ((p = 3 + 2 * i ∧ k = (L.getD i z0).d) ∨ (p = 4 + 2 * i ∧ k = (L.getD i z0).b)) := ⟨_, rfl⟩
  have hge : ∀ k p, ow k p → w0.heap.size ≤ k ∧ k < w.heap.size := fun k p hk => by
    rw [how] at hk
    rcases hk with ⟨-, rfl⟩ | ⟨-, rfl⟩ | ⟨-, rfl⟩ | ⟨i, hi, ⟨-, rfl⟩ | ⟨-, rfl⟩⟩
    · exact ⟨by omega, hJ.box.lt⟩
    · exact ⟨by omega, hr3.lt⟩
    · exact ⟨by omega, Blk.lt hJ.clk⟩
    · obtain ⟨-, h2, h3, h4⟩ := hbd i hi
      exact ⟨by omega, Blk.lt h2⟩
    · obtain ⟨h1, -, h3, h4⟩ := hbd i hi
      exact ⟨by omega, h1.blk.lt⟩
  have hord : ∀ i j, i < n → j < n → ((L.getD i z0).d = (L.getD j z0).d → i = j) ∧ ((L.getD i z0).b = (L.getD j z0).b → i = j) ∧ (L.getD i z0).d ≠ (L.getD j z0).b := fun i j hi hj => by
    obtain ⟨-, -, i3, i4⟩ := hbd i hi
    obtain ⟨-, -, j3, j4⟩ := hbd j hj
    by_cases e : i = j
    · subst e; exact ⟨fun _ => rfl, fun _ => rfl, by omega⟩
    · rcases Nat.lt_or_gt_of_ne e with q | q
      · have := hinc i j q hj
        exact ⟨fun _ => by omega, fun _ => by omega, by omega⟩
      · have := hinc j i q hi
        exact ⟨fun _ => by omega, fun _ => by omega, by omega⟩
  have huq : ∀ k p q, ow k p → ow k q → p = q := fun k p q hp hq => by
    rw [how] at hp hq
    rcases hp with ⟨rfl, hk⟩ | ⟨rfl, hk⟩ | ⟨rfl, hk⟩ | ⟨i, hi, ⟨rfl, hk⟩ | ⟨rfl, hk⟩⟩ <;>
    rcases hq with ⟨rfl, hk'⟩ | ⟨rfl, hk'⟩ | ⟨rfl, hk'⟩ | ⟨j, hj, ⟨rfl, hk'⟩ | ⟨rfl, hk'⟩⟩ <;>
    first
      | rfl
      | (exfalso; omega)
      | (exfalso; have := hbd i hi; have := hne i hi; omega)
      | (exfalso; have := hbd j hj; have := hne j hj; omega)
      | (have := hord i j hi hj; have := hord j i hj hi; omega)
  refine ⟨⟨g, r, cap, c, 0, fun i => (L.getD i z0).b, fun i => (L.getD i z0).d, fun _ _ => none, ow⟩, rfl, ⟨hJ.box, fun i hi => ⟨hcell i hi 0 _ rfl, hcell i hi 1 _ rfl, hcell i hi 2 _ rfl, hcell i hi 3 _ rfl⟩, hr3.free, hJ.clk, ⟨Int.le_refl 0, Int.le_refl 0, Int.le_refl 0, by show (0 : Int) ≤ 1152921504606846976; omega, Int.le_refl 0, by show (0 : Int) ≤ 1152921504606846976 + 0; omega, Int.le_refl 0, by show (0 : Int) ≤ 1000; omega⟩,
    fun i hi => ⟨_, (hbd i hi).1, by simp [allT, upT]; rfl⟩, fun i hi => (hbd i hi).2.1, by rw [how]; exact .inl ⟨rfl, rfl⟩, by rw [how]; exact .inr (.inl ⟨rfl, rfl⟩), by rw [how]; exact .inr (.inr (.inl ⟨rfl, rfl⟩)), fun i hi => by rw [how]; exact .inr (.inr (.inr ⟨i, hi, .inl ⟨rfl, rfl⟩⟩)), fun i k hi hk => by
      rw [how]
      rcases hk with hk | ⟨x, -, hk⟩
      · exact .inr (.inr (.inr ⟨i, hi, .inr ⟨rfl, hk⟩⟩))
      · exact hk.elim, huq, fun k ⟨p, hk⟩ => (hge k p hk).2, h1, h2, ⟨hr4, hr5⟩, Nat.lt_of_lt_of_le (show 2 ^ n - 1 < 2 ^ n by have := Nat.two_pow_pos n; omega) (by have : 2 ^ n ≤ 2 ^ 16 := Nat.pow_le_pow_right (by omega) h2; simpa using this)⟩, rfl, fun k ⟨p, hk⟩ => (hge k p hk).1⟩
end
set_option maxRecDepth 20000 in
set_option maxHeartbeats 2000000 in
theorem new_ok (n : Nat) (le gr : Int) (w : World) (h1 : 1 ≤ n) (h2 : n ≤ 16) (h3 : 0 ≤ le) (h4 : le ≤ gr) (h5 : 1 ≤ gr) (h6 : gr ≤ 1099511627776) :
    Calls Tryz.prog 9 #[.int .i64 (n : Int), .int .i64 le, .int .i64 gr] w fun r w' => ∃ l, r = .returned (.pointer (some ⟨l.g, 0, none⟩)) ∧ Es w' l (enNew n le gr) ∧ l.m = 0 ∧ Below w.heap.size w w' ∧ ∀ k, efoot l k → w.heap.size ≤ k := by
  have CD := fun w' => hide (dnew_any le gr w' h3 h4 h5 h6)
  have CC := fun w' => hide (cnew_any w')
  have CB := fun w' => hide (bnew w')
  have HOR := hide (fun (j : Nat) (hj : j < n) => show bits .or .u32 ((2 ^ j - 1 : Nat) : Int) (((0 ||| Mk.oneN (j : Int) : Nat)) : Int) = ((2 ^ (j + 1) - 1 : Nat) : Int) by
    have hj16 : j < 16 := by omega
    rcases (show j = 0 ∨ j = 1 ∨ j = 2 ∨ j = 3 ∨ j = 4 ∨ j = 5 ∨ j = 6 ∨ j = 7 ∨ j = 8 ∨ j = 9 ∨ j = 10 ∨ j = 11 ∨ j = 12 ∨ j = 13 ∨ j = 14 ∨ j = 15 by omega) with rfl | rfl | rfl | rfl | rfl | rfl | rfl | rfl | rfl | rfl | rfl | rfl | rfl | rfl | rfl | rfl <;> decide +kernel)
  have COF := hide (fun (w2 : World) (B j : Nat) (hc : w2.cell? ⟨B, 0, none⟩ = some (.int .i64 (j : Int))) => show Calls Tryz.prog 26 #[.slice (some ⟨B, 0, none⟩) 1 1] w2 fun r w' => r = .returned (.int .u32 ((0 ||| Mk.oneN (j : Int) : Nat) : Int)) ∧ w' = w2 from Mk.of_any (some ⟨B, 0, none⟩) 1 1 (fun _ => (j : Int)) w2 (by omega) (fun q hq => ⟨_, rfl, by
      obtain rfl : q = 0 := by omega
      exact hc⟩))
  have hn1 : (n : Int) ≤ 16 := by omega
  have hn2 : 1 ≤ (n : Int) := by omega
  go_enter Tryz.func9, Tryz.ntmps9
  go_wp2_with (first | (go_at_call 23; refine (unhide (CD _)).mono ?_; rintro r w1 ⟨rfl, hd1, hb1⟩) | (go_at_call 24; refine Hid.out ?_))
  refine hide ?_
  refine (unhide (CC _)).mono ?_
  rintro r w2 ⟨rfl, hc2, hb2⟩
  obtain ⟨c, hc⟩ : ∃ c, w1.heap.size = c := ⟨_, rfl⟩
  rw [hc] at hc2
  rw [hc]
  obtain ⟨g, hg⟩ : ∃ g, w2.heap.size = g := ⟨_, rfl⟩
  obtain ⟨W3, hW3⟩ : ∃ W3, W3 = w2.alloc (.cells #[.pointer (some ⟨c, 0, none⟩), .slice none 0 0, .int .u32 0] 67) := ⟨_, rfl⟩
  have b3 : Below w2.heap.size w2 W3 := by rw [hW3]; exact one_below _ _
  have k3 : Blk W3 g 67 #[.pointer (some ⟨c, 0, none⟩), .slice none 0 0, .int .u32 0] := by rw [hW3]; exact Blk.new_at _ _ _ hg.symm
  have hs1 := hb1.size
  have hlc := hc2.lt
  have hlg := k3.lt
  have H0 : Hid (NJ w (g + 1) g c le gr 0 (2 ^ 0 - 1) none 0 [] W3) := hide ⟨k3, hc2.below b3, Rg.nil _ _, rfl, ((hb1.trans (hb2.mono hs1)).trans (b3.mono (by have := hb2.size; omega))), by omega, (fun x hx => by cases hx), List.Pairwise.nil⟩
  have HW3 := hide hW3
  clear hd1 hb1 hc2 hb2 b3 k3 hW3 hs1 hlc
  go_wp2_with fail
  rw [← unhide HW3]
  clear HW3
  go_loopw [25] (fun s25 w' => ∃ (j : Nat) (a : Option Addr) (cap : Nat) (L : List Pr), s25 = .int .i64 (j : Int) ∧ j ≤ n ∧ Hid (NJ w (g + 1) g c le gr j (2 ^ j - 1) a cap L w')) (fun d _ => n - (intOf d).toNat)
  case atStart => exact ⟨0, none, 0, [], rfl, by omega, H0⟩
  case round =>
    obtain ⟨j, a, cap, L, rfl, hj, HJ⟩ := hrel
    by_cases hlt : j < n
    · have hJ := unhide HJ
      have d1 : wr.drew.cell? ⟨g, 1, none⟩ = some (.slice a j cap) := blkAt hJ.box 1 _ rfl
      have HD := hide hJ.row
      have HLN := hide hJ.len
      have hj16 : j ≤ 16 := by omega
      have HGS := hide (show g + 1 ≤ wr.heap.size from hJ.box.lt)
      have HBX := hide hJ.box
      clear hJ
      have bd : Below wr.heap.size wr wr.drew := below_drew (Below.refl _ _)
      go_upto_region 7 with fail
      go_region_law (first
        | (refine rstep_g rpr rfl _ _ rfl (D := g + 1) (.slice a j cap) L rfl ((unhide HR6).1 _) [⟨b5, d6⟩] (rnews_box rpr ((unhide HR6).2.1 _) rfl) (by rw [unhide HLN]; simp; omega) ((unhide HR6).2.2.1 _) ?_; intro v7 w7 o7 G7; obtain ⟨a7, cap7, hf7, -⟩ := o7.form; rw [show (L ++ [(⟨b5, d6⟩ : Pr)]).length = j + 1 by rw [List.length_append, unhide HLN]; rfl] at hf7; subst hf7; have z7 := (unhide HR6).2.2.2 _ _ G7; have z8 := z7.1; have z9 := z7.2)
        | (go_simp; go_at_call 25; refine (unhide (CB _)).mono ?_; rintro r w5 ⟨b5, rfl, hB5, bb5, eb5⟩; have E5 := hide eb5; have z5 := blkAt ((unhide HBX).below (bd.trans bb5) (unhide HBX).lt) 1 (.slice a j cap) rfl; clear eb5)
        | (go_simp; go_at_call 23; refine (unhide (CD _)).mono ?_; rintro r w6 ⟨rfl, hD6, bd6⟩
           obtain ⟨d6, hd6⟩ : ∃ d, w5.heap.size = d := ⟨_, rfl⟩
           obtain ⟨q6, hq6⟩ : ∃ q, w6.heap.size = q := ⟨_, rfl⟩
           rw [hd6] at hD6
           rw [hd6]
           have B6 : Below wr.heap.size wr w6 := (bd.trans bb5).trans (bd6.mono (bd.trans bb5).size)
           have z6 := blkAt ((unhide HBX).below B6 (unhide HBX).lt) 1 (.slice a j cap) rfl
           have z6a : ∀ o, (w6.alloc o).cell? ⟨g, 1, none⟩ = some (.slice a j cap) := fun o => blkAt (((unhide HBX).below B6 (unhide HBX).lt).alloc o) 1 (.slice a j cap) rfl
           have HR6 : Hid ((∀ o, Rg rpr (w6.alloc o) (g + 1) (.slice a j cap) L) ∧ (∀ cs, Blk (w6.alloc (.cells cs 71)) q6 71 cs) ∧ (∀ o, g + 1 ≤ (w6.alloc o).heap.size) ∧ ∀ o w7, (w6.alloc o).grownBy w7 (Value.slice a j cap).ownBlock → w7.cell? ⟨g, 1, none⟩ = some (.slice a j cap) ∧ ∀ i, w7.frozen? ⟨g, i, none⟩ = false) := by
             refine hide ⟨fun o => ((unhide HD).below B6).below (one_below _ _), fun cs => Blk.new_at _ _ _ hq6.symm, fun o => by have := (B6.trans ((one_below w6 o).mono B6.size)).size; have := unhide HGS; omega, fun o w7 G => ?_⟩
             have k := (((unhide HBX).below B6 (unhide HBX).lt).alloc o).grownR G (fun e => by have := ((unhide HD).lt g e.symm).1; omega)
             exact ⟨blkAt k 1 _ rfl, k.free⟩
           have H6 := hide (And.intro hB5 (And.intro bb5 (And.intro (unhide E5) (And.intro hD6 (And.intro bd6 (And.intro B6 hq6))))))
           clear hB5 bb5 hD6 bd6 B6))
      all_goals
        obtain ⟨hB5, bb5, eb5, hD6, bd6, B6, hq6⟩ := unhide H6
        have H8 := hide ((unhide HJ).half hB5 (bd.trans bb5) eb5 hD6 bd6 hd6 G7 o7)
        obtain ⟨W8, hW8⟩ : ∃ W8, W8 = w7.setCell ⟨g, 1, none⟩ (.slice a7 (j + 1) cap7) := ⟨_, rfl⟩
        rw [← hW8] at H8
        have HW8 := hide hW8
        clear hB5 bb5 eb5 hD6 bd6 B6 hq6 H6 hW8 G7 o7 z7 z8 z9 z6 z6a z5 HR6
        have hor : bits .or .u32 ((2 ^ j - 1 : Nat) : Int) (((0 ||| Mk.oneN (j : Int) : Nat)) : Int) = ((2 ^ (j + 1) - 1 : Nat) : Int) := unhide HOR j hlt
        have d0 : W8.drew.cell? ⟨g, 2, none⟩ = some (.int .u32 ((2 ^ j - 1 : Nat) : Int)) := blkAt (unhide H8).box 2 _ rfl
        have e1 : ∀ o, (W8.alloc o).drew.cell? ⟨g, 2, none⟩ = some (.int .u32 ((2 ^ j - 1 : Nat) : Int)) := fun o => blkAt ((unhide H8).box.alloc o) 2 _ rfl
        have e2 : ∀ o i, (W8.alloc o).drew.frozen? ⟨g, i, none⟩ = false := fun o i => ((unhide H8).box.alloc o).free i
        have e3 : ∀ i, W8.drew.frozen? ⟨g, i, none⟩ = false := fun i => (unhide H8).box.free i
        obtain ⟨B9, hB9⟩ : ∃ b, W8.heap.size = b := ⟨_, rfl⟩
        have COF2 := hide (unhide COF (W8.alloc (.cells #[.int .i64 (j : Int)] 3)).drew B9 j (blkAt (show Blk (W8.alloc (.cells #[.int .i64 (j : Int)] 3)).drew B9 3 #[.int .i64 (j : Int)] from Blk.new_at _ _ _ hB9.symm) 0 _ rfl))
        have HM := hide (fun o => (unhide H8).mask (w' := (W8.alloc o).drew) (below_drew (one_below W8 o)) (2 ^ (j + 1) - 1))
        generalize ((2 ^ j - 1 : Nat) : Int) = MJ1 at *
        generalize ((2 ^ (j + 1) - 1 : Nat) : Int) = MJ2 at *
        generalize (0 ||| Mk.oneN (j : Int) : Nat) = MO at *
        go_upto_region 8 with fail
        rw [← unhide HW8]
        clear HW8
        go_region_with (go_at_call 26; refine (unhide COF2).mono ?_; rintro r w9 ⟨rfl, rfl⟩)
        all_goals go_wp2_with fail
        all_goals
          go_roundw
          case rel => exact ⟨j + 1, a7, cap7, L ++ [⟨b5, d6⟩], by first | rfl | go_num, by omega, hide (unhide HM _)⟩
          case measure => simp [intOf]; omega
    · obtain rfl : j = n := by omega
      go_wp2_with fail
      go_ret
      obtain ⟨l, hlg2, hE, hm, hf⟩ := (unhide HJ).fin h1 h2
      exact ⟨l, by rw [hlg2]; rfl, hE, hm, (unhide HJ).low, hf⟩
end Go.Proofs.YtjjdkkdnlnbedaaGreat
