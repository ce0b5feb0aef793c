/- An engine as it lies in memory. -/
import Derived.Test.YtjjdkkdnlnbedaaGreatEnMath
import Derived.Test.YtjjdkkdnlnbedaaGreatBaD
import Derived.Test.YtjjdkkdnlnbedaaGreatDeA
namespace Go.Proofs.YtjjdkkdnlnbedaaGreat
open Go.RowKit Kt Qu
set_option linter.unusedVariables false

/-- Where an engine lies: its box, its row, its clock, bases and devices; how many stores were done; whose a block is. -/
structure Loc where
  g : Nat
  r : Nat
  cap : Nat
  c : Nat
  m : Nat
  b : Nat → Nat
  d : Nat → Nat
  P : Nat → Nat → Option Qa
  ow : Nat → Nat → Prop
def efoot (l : Loc) (k : Nat) : Prop := ∃ p, l.ow k p
structure Es (w : World) (l : Loc) (e : En) : Prop where
  box : Blk w l.g 67 #[.pointer (some ⟨l.c, 0, none⟩), .slice (some ⟨l.r, 0, none⟩) e.n l.cap, .int .u32 (e.M : Int)]
  row : ∀ i, i < e.n → w.cell? ⟨l.r, i * 4, none⟩ = some (.pointer (some ⟨l.b i, 0, none⟩)) ∧ w.cell? ⟨l.r, i * 4 + 1, none⟩ = some (.pointer (some ⟨l.d i, 0, none⟩)) ∧ w.cell? ⟨l.r, i * 4 + 2, none⟩ = some (.bool (e.cp i).ra) ∧ w.cell? ⟨l.r, i * 4 + 3, none⟩ = some (.bool (e.cp i).ki)
  rfr : ∀ j, w.frozen? ⟨l.r, j, none⟩ = false
  clk : Clk w l.c e.z.c e.z.m (e.z.v - e.z.m) (e.z.q - e.z.m) e.z.s e.z.n
  nums : Nums e.z.c e.z.m e.z.v e.z.q e.z.n
  bs : ∀ i, i < e.n → ∃ R, Bs w (l.b i) l.m (l.P i) R ∧ allT R = (e.cp i).L
  dv : ∀ i, i < e.n → Dev w (l.d i) e.le e.gr (e.cp i).on (e.cp i).arm.isSome ((e.cp i).arm.getD 0) (e.cp i).la
  og : l.ow l.g 0
  orr : l.ow l.r 1
  oc : l.ow l.c 2
  od : ∀ i, i < e.n → l.ow (l.d i) (3 + 2 * i)
  ob : ∀ i k, i < e.n → bfoot (l.b i) (l.P i) k → l.ow k (4 + 2 * i)
  uq : ∀ k p q, l.ow k p → l.ow k q → p = q
  lt : ∀ k, efoot l k → k < w.heap.size
  n1 : 1 ≤ e.n
  n16 : e.n ≤ 16
  cap : e.n ≤ l.cap ∧ l.cap ≤ maxLen
  M16 : e.M < 65536
section
variable {w w' : World} {l : Loc} {e : En}
theorem Bs.ups {w : World} {b n n' : Nat} {P : Nat → Option Qa} {R : Rows6} (h : Bs w b n P R) (hn : n ≤ n') (hb : n' ≤ 1000000) : Bs w b n' P R := by
  induction hn with
  | refl => exact h
  | step _ ih => exact (ih (by omega)).up (by omega)
/-- What lies elsewhere stays. -/
theorem Es.cellR (h : Es w l e) {F : Nat → Prop} (f : Ft F w w') (hn : ¬ F l.r) : (∀ i, i < e.n → w'.cell? ⟨l.r, i * 4, none⟩ = some (.pointer (some ⟨l.b i, 0, none⟩)) ∧ w'.cell? ⟨l.r, i * 4 + 1, none⟩ = some (.pointer (some ⟨l.d i, 0, none⟩)) ∧ w'.cell? ⟨l.r, i * 4 + 2, none⟩ = some (.bool (e.cp i).ra) ∧ w'.cell? ⟨l.r, i * 4 + 3, none⟩ = some (.bool (e.cp i).ki)) ∧ ∀ j, w'.frozen? ⟨l.r, j, none⟩ = false := by
  have hb := f.block l.r (h.lt _ ⟨1, h.orr⟩) hn
  refine ⟨fun i hi => ?_, fun j => ?_⟩
  · obtain ⟨h0, h1, h2, h3⟩ := h.row i hi
    exact ⟨f.cell h0 hn, f.cell h1 hn, f.cell h2 hn, f.cell h3 hn⟩
  · have := h.rfr j
    unfold World.frozen? at this ⊢
    rw [hb]; exact this
theorem Es.move (h : Es w l e) {F : Nat → Prop} (f : Ft F w w') (hF : ∀ k, efoot l k → ¬ F k) : Es w' l e :=
  ⟨h.box.ft f (hF _ ⟨_, h.og⟩), (h.cellR f (hF _ ⟨_, h.orr⟩)).1, (h.cellR f (hF _ ⟨_, h.orr⟩)).2, h.clk.ft f (hF _ ⟨_, h.oc⟩), h.nums,
    fun i hi => by obtain ⟨R, hR, e1⟩ := h.bs i hi; exact ⟨R, hR.ft f (fun k hk => hF _ ⟨_, h.ob i k hi hk⟩), e1⟩,
    fun i hi => (h.dv i hi).ft f (hF _ ⟨_, h.od i hi⟩), h.og, h.orr, h.oc, h.od, h.ob, h.uq, fun k hk => Nat.lt_of_lt_of_le (h.lt k hk) f.size, h.n1, h.n16, h.cap, h.M16⟩
theorem Es.below (h : Es w l e) (hb : Below w.heap.size w w') : Es w' l e := h.move (Ft.of_below (fun _ => False) hb) (fun _ _ => id)
theorem En.set_at (e : En) (i : Nat) (c : Cp) : (e.set i c).cp i = c := if_pos rfl
theorem En.set_ne (e : En) {i j : Nat} (c : Cp) (h : j ≠ i) : (e.set i c).cp j = e.cp j := if_neg h
theorem En.set_set (e : En) (i : Nat) (c d : Cp) : (e.set i c).set i d = e.set i d := by
  unfold En.set
  congr 1
  funext j
  by_cases h : j = i
  · simp [h]
  · simp [h]
theorem En.set_self (e : En) (i : Nat) : e.set i (e.cp i) = e := by
  unfold En.set
  congr 1
  funext j
  by_cases h : j = i
  · subst h; simp
  · simp [h]
/-- One device has changed. -/
theorem Es.devd (h : Es w l e) {i : Nat} (hi : i < e.n) {c : Cp} (hD : Dev w' (l.d i) e.le e.gr c.on c.arm.isSome (c.arm.getD 0) c.la) (f : Ft (fun k => k = l.d i) w w') (hL : c.L = (e.cp i).L) (hra : c.ra = (e.cp i).ra) (hki : c.ki = (e.cp i).ki) : Es w' l (e.set i c) := by
  have ne : ∀ k p, l.ow k p → p ≠ 3 + 2 * i → ¬ k = l.d i := fun k p hk hp ek => by subst ek; exact hp (h.uq _ _ _ hk (h.od i hi))
  refine ⟨h.box.ft f (ne _ _ h.og (by omega)), fun j hj => ?_, (h.cellR f (ne _ _ h.orr (by omega))).2, h.clk.ft f (ne _ _ h.oc (by omega)), h.nums, fun j hj => ?_, fun j hj => ?_, h.og, h.orr, h.oc, h.od, h.ob, h.uq, fun k hk => Nat.lt_of_lt_of_le (h.lt k hk) f.size, h.n1, h.n16, h.cap, h.M16⟩
  · have := (h.cellR f (ne _ _ h.orr (by omega))).1 j hj
    by_cases ej : j = i
    · subst ej; rw [e.set_at, hra, hki]; exact this
    · rw [e.set_ne c ej]; exact this
  · obtain ⟨R, hR, e1⟩ := h.bs j hj
    refine ⟨R, hR.ft f (fun k hk => ne _ _ (h.ob j k hj hk) (by omega)), ?_⟩
    by_cases ej : j = i
    · subst ej; rw [e.set_at, hL]; exact e1
    · rw [e.set_ne c ej]; exact e1
  · by_cases ej : j = i
    · subst ej; rw [e.set_at]; exact hD
    · rw [e.set_ne c ej]; exact (h.dv j hj).ft f (ne _ _ (h.od j hj) (by omega))
/-- One base has changed. -/
def Loc.grow (l : Loc) (i m : Nat) (P : Nat → Option Qa) : Loc := { l with m := m, P := fun j => if j = i then P else l.P j, ow := fun k p => l.ow k p ∨ (p = 4 + 2 * i ∧ bfoot (l.b i) P k) }
theorem Es.based (h : Es w l e) {i : Nat} (hi : i < e.n) {c : Cp} {m : Nat} {P : Nat → Option Qa} {R : Rows6} (hB : Bs w' (l.b i) m P R) (f : Ft (bfoot (l.b i) (l.P i)) w w')
    (hg : ∀ k, bfoot (l.b i) P k → bfoot (l.b i) (l.P i) k ∨ w.heap.size ≤ k) (hm : l.m ≤ m) (hL : c.L = allT R) (hon : c.on = (e.cp i).on) (harm : c.arm = (e.cp i).arm) (hla : c.la = (e.cp i).la) (hra : c.ra = (e.cp i).ra) (hki : c.ki = (e.cp i).ki) : Es w' (l.grow i m P) (e.set i c) := by
  have ne : ∀ k p, l.ow k p → p ≠ 4 + 2 * i → ¬ bfoot (l.b i) (l.P i) k := fun k p hk hp ek => hp (h.uq _ _ _ hk (h.ob i k hi ek))
  have nw : ∀ k p, l.ow k p → bfoot (l.b i) P k → p = 4 + 2 * i := fun k p hk hb => by
    rcases hg k hb with q | q
    · exact h.uq _ _ _ hk (h.ob i k hi q)
    · have := h.lt k ⟨p, hk⟩; omega
  refine ⟨h.box.ft f (ne _ _ h.og (by omega)), fun j hj => ?_, (h.cellR f (ne _ _ h.orr (by omega))).2, h.clk.ft f (ne _ _ h.oc (by omega)), h.nums, fun j hj => ?_, fun j hj => ?_, .inl h.og, .inl h.orr, .inl h.oc, fun j hj => .inl (h.od j hj), fun j k hj hk => ?_, fun k p q hp hq => ?_, fun k hk => ?_, h.n1, h.n16, h.cap, h.M16⟩
  · have := (h.cellR f (ne _ _ h.orr (by omega))).1 j hj
    by_cases ej : j = i
    · subst ej; rw [e.set_at, hra, hki]; exact this
    · rw [e.set_ne c ej]; exact this
  · by_cases ej : j = i
    · subst ej
      refine ⟨R, ?_, by rw [e.set_at]; exact hL.symm⟩
      rw [show (l.grow j m P).P j = P from if_pos rfl]; exact hB
    · obtain ⟨S, hS, e1⟩ := h.bs j hj
      refine ⟨S, ?_, by rw [e.set_ne c ej]; exact e1⟩
      rw [show (l.grow i m P).P j = l.P j from if_neg ej]
      exact (hS.ft f (fun k hk => ne _ _ (h.ob j k hj hk) (by omega))).ups hm hB.nb
  · have := (h.dv j hj).ft f (ne _ _ (h.od j hj) (by omega))
    by_cases ej : j = i
    · subst ej; rw [e.set_at, hon, harm, hla]; exact this
    · rw [e.set_ne c ej]; exact this
  · by_cases ej : j = i
    · subst ej
      rw [show (l.grow j m P).P j = P from if_pos rfl] at hk
      exact .inr ⟨rfl, hk⟩
    · rw [show (l.grow i m P).P j = l.P j from if_neg ej] at hk
      exact .inl (h.ob j k hj hk)
  · rcases hp with hp | ⟨rfl, hp⟩
    · rcases hq with hq | ⟨rfl, hq⟩
      · exact h.uq _ _ _ hp hq
      · exact nw _ _ hp hq
    · rcases hq with hq | ⟨rfl, hq⟩
      · exact (nw _ _ hq hp).symm
      · rfl
  · obtain ⟨p, hp | ⟨rfl, hp⟩⟩ := hk
    · exact Nat.lt_of_lt_of_le (h.lt k ⟨p, hp⟩) f.size
    · exact hB.lts k hp
theorem Es.based0 (h : Es w l e) {i : Nat} (hi : i < e.n) {c : Cp} {R : Rows6} (hB : Bs w' (l.b i) l.m (l.P i) R) (f : Ft (bfoot (l.b i) (l.P i)) w w')
    (hL : c.L = allT R) (hon : c.on = (e.cp i).on) (harm : c.arm = (e.cp i).arm) (hla : c.la = (e.cp i).la) (hra : c.ra = (e.cp i).ra) (hki : c.ki = (e.cp i).ki) : Es w' l (e.set i c) := by
  have hE := h.based hi hB f (fun k hk => .inl hk) (Nat.le_refl _) hL hon harm hla hra hki
  have e1 : (l.grow i l.m (l.P i)).P = l.P := by
    funext j
    show (if j = i then l.P i else l.P j) = _
    by_cases q : j = i
    · subst q; simp
    · simp [q]
  have e2 : ∀ k p, (l.grow i l.m (l.P i)).ow k p → l.ow k p := by
    rintro k p (q | ⟨rfl, q⟩)
    · exact q
    · exact h.ob i k hi q
  exact ⟨hE.box, hE.row, hE.rfr, hE.clk, hE.nums, fun j hj => by have := hE.bs j hj; rw [e1] at this; exact this, hE.dv, h.og, h.orr, h.oc, h.od, h.ob, h.uq, fun k hk => Nat.lt_of_lt_of_le (h.lt k hk) f.size, h.n1, h.n16, h.cap, h.M16⟩
/-- The clock has changed. -/
theorem Es.clkd (h : Es w l e) {z : KS} (hC : Clk w' l.c z.c z.m (z.v - z.m) (z.q - z.m) z.s z.n) (hn : Nums z.c z.m z.v z.q z.n) (f : Ft (fun k => k = l.c) w w') : Es w' l { e with z := z } := by
  have ne : ∀ k p, l.ow k p → p ≠ 2 → ¬ k = l.c := fun k p hk hp ek => by subst ek; exact hp (h.uq _ _ _ hk h.oc)
  exact ⟨h.box.ft f (ne _ _ h.og (by omega)), (h.cellR f (ne _ _ h.orr (by omega))).1, (h.cellR f (ne _ _ h.orr (by omega))).2, hC, hn,
    fun j hj => by obtain ⟨R, hR, e1⟩ := h.bs j hj; exact ⟨R, hR.ft f (fun k hk => ne _ _ (h.ob j k hj hk) (by omega)), e1⟩,
    fun j hj => (h.dv j hj).ft f (ne _ _ (h.od j hj) (by omega)), h.og, h.orr, h.oc, h.od, h.ob, h.uq, fun k hk => Nat.lt_of_lt_of_le (h.lt k hk) f.size, h.n1, h.n16, h.cap, h.M16⟩
theorem ft_set1 (w : World) (g j : Nat) (v : Value) : Ft (fun k => k = g) w (w.setCell ⟨g, j, none⟩ v) := Ft.set (F := fun k => k = g) (Ft.refl _ w) (.inl rfl) j v
/-- A mark is written. -/
theorem Es.mark (h : Es w l e) {i : Nat} (hi : i < e.n) (q : Nat) (x : Bool) {c : Cp} (hq : q = 2 ∨ q = 3) (hc : c = if q = 2 then { e.cp i with ra := x } else { e.cp i with ki := x }) : Es (w.setCell ⟨l.r, i * 4 + q, none⟩ (.bool x)) l (e.set i c) := by
  have f := ft_set1 w l.r (i * 4 + q) (.bool x)
  have ne : ∀ k p, l.ow k p → p ≠ 1 → ¬ k = l.r := fun k p hk hp ek => by subst ek; exact hp (h.uq _ _ _ hk h.orr)
  have hL : c.L = (e.cp i).L ∧ c.on = (e.cp i).on ∧ c.arm = (e.cp i).arm ∧ c.la = (e.cp i).la := by subst hc; split <;> exact ⟨rfl, rfl, rfl, rfl⟩
  refine ⟨h.box.ft f (ne _ _ h.og (by omega)), fun j hj => ?_, fun j => by rw [World.frozen?_setCell]; exact h.rfr j, h.clk.ft f (ne _ _ h.oc (by omega)), h.nums, fun j hj => ?_, fun j hj => ?_, h.og, h.orr, h.oc, h.od, h.ob, h.uq, fun k hk => Nat.lt_of_lt_of_le (h.lt k hk) f.size, h.n1, h.n16, h.cap, h.M16⟩
  · obtain ⟨h0, h1, h2, h3⟩ := h.row j hj
    have key : ∀ o v, w.cell? ⟨l.r, o, none⟩ = some v → o ≠ i * 4 + q → (w.setCell ⟨l.r, i * 4 + q, none⟩ (.bool x)).cell? ⟨l.r, o, none⟩ = some v := fun o v hv hne => by
      rw [World.cell?_setCell_other _ _ _ _ (by intro a; simp only [Addr.mk.injEq, true_and, and_true] at a; exact hne a.symm)]; exact hv
    refine ⟨key _ _ h0 (by omega), key _ _ h1 (by omega), ?_, ?_⟩
    · by_cases ej : j = i
      · subst ej
        rw [e.set_at, hc]
        rcases hq with rfl | rfl
        · rw [World.cell?_setCell_same _ _ _ h2]; rfl
        · exact key _ _ h2 (by omega)
      · rw [e.set_ne c ej]; exact key _ _ h2 (by omega)
    · by_cases ej : j = i
      · subst ej
        rw [e.set_at, hc]
        rcases hq with rfl | rfl
        · exact key _ _ h3 (by omega)
        · rw [World.cell?_setCell_same _ _ _ h3]; rfl
      · rw [e.set_ne c ej]; exact key _ _ h3 (by omega)
  · obtain ⟨R, hR, e1⟩ := h.bs j hj
    refine ⟨R, hR.ft f (fun k hk => ne _ _ (h.ob j k hj hk) (by omega)), ?_⟩
    by_cases ej : j = i
    · subst ej; rw [e.set_at, hL.1]; exact e1
    · rw [e.set_ne c ej]; exact e1
  · have := (h.dv j hj).ft f (ne _ _ (h.od j hj) (by omega))
    by_cases ej : j = i
    · subst ej; rw [e.set_at, hL.2.1, hL.2.2.1, hL.2.2.2]; exact this
    · rw [e.set_ne c ej]; exact this
theorem Es.setM (h : Es w l e) (M : Nat) (hM : M < 65536) : Es (w.setCell ⟨l.g, 2, none⟩ (.int .u32 (M : Int))) l { e with M := M } := by
  have f := ft_set1 w l.g 2 (.int .u32 (M : Int))
  have ne : ∀ k p, l.ow k p → p ≠ 0 → ¬ k = l.g := fun k p hk hp ek => by subst ek; exact hp (h.uq _ _ _ hk h.og)
  exact ⟨h.box.put 2 _, (h.cellR f (ne _ _ h.orr (by omega))).1, (h.cellR f (ne _ _ h.orr (by omega))).2, h.clk.ft f (ne _ _ h.oc (by omega)), h.nums,
    fun j hj => by obtain ⟨R, hR, e1⟩ := h.bs j hj; exact ⟨R, hR.ft f (fun k hk => ne _ _ (h.ob j k hj hk) (by omega)), e1⟩,
    fun j hj => (h.dv j hj).ft f (ne _ _ (h.od j hj) (by omega)), h.og, h.orr, h.oc, h.od, h.ob, h.uq, fun k hk => Nat.lt_of_lt_of_le (h.lt k hk) f.size, h.n1, h.n16, h.cap, hM⟩
end
theorem Ft.of_tch {g : Nat} {w w' : World} (h : Tch g w w') : Ft (fun k => k = g) w w' := ⟨h.os, h.tape, h.output, h.size, fun k hk hn => h.block k hk hn⟩
/-- Sooner, in one. -/
theorem sooner_any {g : Nat} {le gr : Int} {arm : Option Int} {la : Bool} (n s : Int) (w : World) (h : Dev w g le gr true arm.isSome (arm.getD 0) la) :
    Calls Tryz.prog 94 #[.pointer (some ⟨g, 0, none⟩), .int .i64 n, .int .i64 s] w fun e w' => (∃ x, e = .returned (.bool x)) ∧ ∃ a, a = (if neverB s = true then arm else armTo arm (aimZ le gr n s)) ∧ Dev w' g le gr true a.isSome (a.getD 0) la ∧ Ft (fun k => k = g) w w' := by
  cases arm with
  | none =>
    refine (sooner_yes n s w h (.inl rfl)).mono ?_
    rintro e w' ⟨rfl, h1, t1⟩
    refine ⟨⟨_, rfl⟩, _, rfl, ?_, Ft.of_tch t1⟩
    cases hn : neverB s
    · rw [hn] at h1
      exact h1
    · rw [hn] at h1
      have : aimZ le gr n s = 0 := if_pos hn
      rw [this] at h1
      exact h1
  | some t =>
    by_cases hn : neverB s = true
    · rw [if_pos hn]
      refine (sooner_no n s w h (.inl hn)).mono ?_
      rintro e w' ⟨rfl, h1, t1⟩
      exact ⟨⟨_, rfl⟩, _, rfl, h1, Ft.of_tch t1⟩
    · rw [if_neg hn]
      by_cases ht : t ≤ aimZ le gr n s
      · refine (sooner_no n s w h (.inr ht)).mono ?_
        rintro e w' ⟨rfl, h1, t1⟩
        exact ⟨⟨_, rfl⟩, _, rfl, by rw [show armTo (some t) (aimZ le gr n s) = some t from if_pos ht]; exact h1, Ft.of_tch t1⟩
      · have hn2 : neverB s = false := by simpa using hn
        refine (sooner_yes n s w h (.inr ⟨hn2, ht⟩)).mono ?_
        rintro e w' ⟨rfl, h1, t1⟩
        rw [hn2] at h1
        exact ⟨⟨_, rfl⟩, _, rfl, by rw [show armTo (some t) (aimZ le gr n s) = some (aimZ le gr n s) from if_neg ht]; exact h1, Ft.of_tch t1⟩
end Go.Proofs.YtjjdkkdnlnbedaaGreat
