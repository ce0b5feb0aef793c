import Derived.Test.YtihfldjoogaolaaTc
import Derived.Test.YtihfldjoogaolaaFtp
import Derived.Test.YtihfldjoogaolaaQuMath
import Derived.RegionTactic
import Derived.BigRegion
import Derived.Deep.QuietTactic
import Derived.BigQuiet
namespace Go.Proofs.Ytihfldjoogaolaa
open Go.RowKit Kt Qu
set_option linter.unusedVariables false

def tv (t : Tmr) : Value := .agg #[.int .i64 t.id, .int .i64 t.clock, .int .i64 t.soft, .int .i64 t.hard, .bool t.lazy]
def t0 : Tmr := ⟨0, 0, 0, 0, false⟩
def ik (i : Int) : Value := .int .i64 i
def hk (p : Nat × Int) : Value := .agg #[.int .i64 p.1, .int .i64 p.2]
theorem ik_inj (x y : Int) (h : ik x = ik y) : x = y := by cases h; rfl
theorem hk_inj (x y : Nat × Int) (h : hk x = hk y) : x = y := by
  obtain ⟨a, b⟩ := x
  obtain ⟨c, d⟩ := y
  unfold hk at h
  simp only [Value.agg.injEq] at h
  have h1 := congrArg (fun z => z[0]?) h
  have h2 := congrArg (fun z => z[1]?) h
  simp only [List.getElem?_toArray, List.getElem?_cons_zero, List.getElem?_cons_succ, Option.some.injEq, Value.int.injEq, true_and] at h1 h2
  rw [Prod.mk.injEq]
  exact ⟨by omega, h2⟩
theorem keyedI : Go.Maps.Keyed Try.prog 3 := Go.Maps.int_keyed Try.underlying3
theorem keyI {i : Int} (h : isI i) : (keyOf Try.prog 3 (ik i)).isSome = true := by
  rw [show keyOf Try.prog 3 (ik i) = some (.int .i64 i) from Go.Maps.keyOf_int_mk Try.underlying3 h]; rfl
theorem laidOutQ : laidOutB Try.prog = true := by kernel_rfl
theorem rowH : (51 : TypeId) < Try.prog.types.size := of_decide_eq_true (by kernel_rfl)
theorem typesPos : 0 < Try.prog.types.size := of_decide_eq_true (by kernel_rfl)
theorem wideH : (match Try.prog.underlying 51 with | some (.array _ _) | some (.struct _) => true | _ => false) = true := by kernel_rfl
theorem keyedH : Go.Maps.Keyed Try.prog 51 := Go.Maps.Keyed.of_law (deep_law_laid laidOutQ (m := 2) (by omega) rowH (by kernel_rfl) wideH)
theorem keyTypeH : Try.prog.keyType 51 = true := by kernel_rfl
theorem cellsH : Try.prog.cellsOf 51 = 2 := by kernel_rfl
theorem cellsI : Try.prog.cellsOf 3 = 1 := by kernel_rfl
theorem keyH {p : Nat × Int} (h1 : isI (p.1 : Int)) (h2 : isI p.2) : (keyOf Try.prog 51 (hk p)).isSome = true := by
  unfold isI at h1 h2
  have hf : (hk p).formed Try.prog 51 = true := by
    unfold hk
    simp [Value.formed, Try.underlying51, cellsH]
  have hs : Try.prog.types.size = Try.prog.types.size := rfl
  unfold keyOf
  rw [Try.underlying51]
  simp only [keyTypeH, hf, Bool.and_self, if_true]
  unfold Program.keyLits
  rw [Try.underlying51]
  obtain ⟨m, hm⟩ : ∃ m, Try.prog.types.size = m + 1 := ⟨Try.prog.types.size - 1, by have := typesPos; omega⟩
  rw [hm]
  unfold hk
  simp [Value.cells, cellsH, cellsI, Program.keyLits, Try.underlying3, h1, h2]
theorem zeroH (w : World) : (zeroValue 51).run Try.prog w = .ok (.agg #[.int .i64 0, .int .i64 0]) w := by kernel_rfl
theorem zeroT (w : World) : (zeroValue 28).run Try.prog w = .ok (.agg #[.int .i64 0, .int .i64 0, .int .i64 0, .int .i64 0, .bool false]) w := by kernel_rfl

/-- Where a queue lies: its own block, its tree's two, its two maps. -/
structure Qa where
  q : Nat
  t : Nat
  g : Nat
  mh : Nat
  mt : Nat
def Qa.foot (a : Qa) (k : Nat) : Prop := k = a.q ∨ k = a.t ∨ k = a.g ∨ k = a.mh ∨ k = a.mt
/-- All but its own block. -/
def Qa.in (a : Qa) (k : Nat) : Prop := k = a.t ∨ k = a.g ∨ k = a.mh ∨ k = a.mt
def QI.it (y : QI) : It := ⟨y.n, y.tu, clampZ y.tm.soft, 0⟩
def okT (t : Tmr) : Prop := isI t.id ∧ isI t.clock ∧ isI t.soft ∧ isI t.hard
structure Qa.Ap (a : Qa) : Prop where
  qt : a.q ≠ a.t
  qg : a.q ≠ a.g
  qh : a.q ≠ a.mh
  qm : a.q ≠ a.mt
  tg : a.t ≠ a.g
  th : a.t ≠ a.mh
  tm : a.t ≠ a.mt
  gh : a.g ≠ a.mh
  gm : a.g ≠ a.mt
  hm : a.mh ≠ a.mt
/-- A queue: its timers, in order, with their places; n stores have been done. -/
structure Que (w : World) (a : Qa) (n : Nat) (L : List QI) : Prop where
  blk : Blk w a.q 49 #[.pointer (some ⟨a.t, 0, none⟩), .map (some a.mh), .map (some a.mt)]
  tre : ∃ tf, Tre w a.t a.g 64 tf (L.map QI.it) ∧ ∀ x, 0 ≤ tf x ∧ tf x ≤ n
  mh : GMap Try.prog 3 ik hk w a.mh n (hF L) L.length
  mt : GMap Try.prog 51 hk tv w a.mt n (tF L) L.length
  nd : QNd L
  ok : ∀ y ∈ L, okT y.tm ∧ y.n ≤ 64 ∧ 0 ≤ y.tu ∧ y.tu ≤ n
  ap : a.Ap
  nb : n ≤ 1000000
section
variable {w w' : World} {a : Qa} {n : Nat} {L : List QI}
theorem Que.ft {F : Nat → Prop} (h : Que w a n L) (ht : Ft F w w') (hn : ∀ k, a.foot k → ¬ F k) : Que w' a n L := by
  obtain ⟨tf, ⟨st, t, fl, o, i, e, f⟩, htf⟩ := h.tre
  have hb := ht.block _ o.lt (hn _ (.inr (.inr (.inl rfl))))
  refine ⟨h.blk.ft ht (hn _ (.inl rfl)), ⟨tf, ⟨st, t, fl, ⟨o.hP, o.ne, o.box.ft ht (hn _ (.inr (.inl rfl))), ⟨fun i hi k hk => ?_, fun j => ?_⟩, Nat.lt_of_lt_of_le o.lt ht.size⟩, i, e, f⟩, htf⟩, h.mh.ft ht (hn _ (.inr (.inr (.inr (.inl rfl))))), h.mt.ft ht (hn _ (.inr (.inr (.inr (.inr rfl))))), h.nd, h.ok, h.ap, h.nb⟩
  · have := o.nod.cell i hi k hk
    unfold World.cell? at this ⊢
    simp only [hb]
    exact this
  · have := o.nod.free j
    unfold World.frozen? at this ⊢
    simp only [hb]
    exact this
theorem Que.below (h : Que w a n L) (hb : Below w.heap.size w w') : Que w' a n L := h.ft (Ft.of_below (fun _ => False) hb) (fun _ _ => id)
theorem Que.drewN (h : Que w a n L) (m : Nat) : Que (w.drewN m) a n L := h.ft ((Ft.refl (fun _ => False) w).drewN m) (fun _ _ => id)
theorem Que.len (h : Que w a n L) : L.length ≤ 64 := by
  obtain ⟨tf, t, _⟩ := h.tre
  have := t.len
  rwa [List.length_map] at this
theorem Que.lts (h : Que w a n L) : ∀ k, a.foot k → k < w.heap.size := by
  obtain ⟨tf, t, _⟩ := h.tre
  rintro k (rfl | rfl | rfl | rfl | rfl)
  · exact h.blk.lt
  · exact t.lts.1
  · exact t.lts.2.1
  · exact h.mh.lt
  · exact h.mt.lt
theorem Que.keyOf (h : Que w a n L) {y : QI} (hy : y ∈ L) : (keyOf Try.prog 51 (hk (y.n, y.tu))).isSome = true := by
  obtain ⟨_, o2, o3, o4⟩ := h.ok y hy
  have := h.nb
  exact keyH (isI_of (by omega) (by omega)) (isI_of (by omega) (by omega))
theorem Que.c0 (h : Que w a n L) : w.cell? ⟨a.q, 0, none⟩ = some (.pointer (some ⟨a.t, 0, none⟩)) := h.blk.cell 0
theorem Que.c1 (h : Que w a n L) : w.cell? ⟨a.q, 1, none⟩ = some (.map (some a.mh)) := h.blk.cell 1
theorem Que.c2 (h : Que w a n L) : w.cell? ⟨a.q, 2, none⟩ = some (.map (some a.mt)) := h.blk.cell 2
theorem Que.srt (h : Que w a n L) : SrtT (L.map (·.tm)) := by
  obtain ⟨tf, t, _⟩ := h.tre
  have := t.srt
  unfold SrtT
  rw [List.pairwise_map] at this ⊢
  refine this.imp fun {x y} hxy => ?_
  rcases klt_not.1 hxy with h1 | ⟨h1, _⟩
  · exact Int.le_of_lt h1
  · exact Int.le_of_eq h1.symm
end
theorem qnew_any (w : World) : Calls Try.prog 6 #[] w fun e w' => ∃ a : Qa, e = .returned (.pointer (some ⟨a.q, 0, none⟩)) ∧ Que w' a 0 [] ∧ Below w.heap.size w w' ∧ ∀ k, a.foot k → w.heap.size ≤ k := by
  have CN := fun w' => hide (tnew 64 (by omega) (by omega) w')
  rw [show ((64 : Nat) : Int) = 64 from rfl] at CN
  go_enter Try.func6, Try.ntmps6
  go_wp2_with (go_at_call 17; refine Hid.out ?_)
  refine hide ?_
  refine (unhide (CN _)).mono ?_
  rintro e w1 ⟨T, G, rfl, tr, hb, hT, hG⟩
  obtain ⟨b, hb1⟩ : ∃ b, w1.heap.size = b := ⟨_, rfl⟩
  have H := hide (And.intro tr (And.intro hb (And.intro hT hG)))
  clear tr hb hT hG CN
  have hmm := @run_makeMap Try.prog
  go_wp2
  go_ret
  obtain ⟨tr, hb, hT, hG⟩ := unhide H
  have l := tr.lts
  rw [hb1] at l
  have z1 : (w1.alloc (.map #[] 0)).heap.size = b + 1 := by rw [World.size_alloc, hb1]
  have z2 : ((w1.alloc (.map #[] 0)).alloc (.map #[] 0)).heap.size = b + 2 := by rw [World.size_alloc, z1]
  have h0 : w.heap.size ≤ b := by rw [← hb1]; exact hb.size
  have m1 : GMap Try.prog 3 ik hk (w1.alloc (.map #[] 0)) b 0 (fun _ => none) 0 := by rw [← hb1]; exact GMap.made w1
  have m2 : GMap Try.prog 51 hk tv ((w1.alloc (.map #[] 0)).alloc (.map #[] 0)) (b + 1) 0 (fun _ => none) 0 := by rw [← z1]; exact GMap.made _
  refine ⟨⟨b + 2, T, G, b, b + 1⟩, rfl, ?_, ?_, ?_⟩
  · refine ⟨Blk.new_at _ _ _ z2.symm, ⟨fun _ => 0, ((tr.below (one_below _ _)).below (one_below _ _)).below (one_below _ _), fun _ => ⟨Int.le_refl _, Int.le_refl _⟩⟩, ?_, ?_, ⟨by simp, by simp⟩, fun y hy => absurd hy (by simp), ?_, by omega⟩
    · exact ((m1.below (one_below _ _) (by rw [z1]; omega)).below (one_below _ _) (by rw [z2]; omega))
    · exact m2.below (one_below _ _) (by rw [z2]; omega)
    · exact ⟨by simp; omega, by simp; omega, by simp, by simp, l.2.2, by simp; omega, by simp; omega, by simp; omega, by simp; omega, by simp⟩
  · exact ((hb.alloc hb.size _).alloc (by rw [z1]; omega) _).alloc (by rw [z2]; omega) _
  · rintro k (rfl | rfl | rfl | rfl | rfl)
    · simp; omega
    · exact hT
    · exact hG
    · exact h0
    · simp; omega
section
variable {w : World} {a : Qa} {n : Nat} {L : List QI}
theorem qlen_any (h : Que w a n L) : Calls Try.prog 15 #[.pointer (some ⟨a.q, 0, none⟩)] w fun e w' => e = .returned (.int .i64 L.length) ∧ w' = w := by
  have c0 := h.c0
  obtain ⟨tf, t, _⟩ := h.tre
  have CL := hide (tlen a.t a.g 64 tf _ w t)
  rw [List.length_map] at CL
  clear h t
  go_enter Try.func15, Try.ntmps15
  go_wp2_with (go_at_call 24; refine (unhide CL).mono ?_; rintro e w' ⟨rfl, rfl⟩)
  go_ret
  exact ⟨rfl, rfl⟩
theorem qlen_nil (w : World) : Calls Try.prog 15 #[.pointer none] w fun e w' => e = .returned (.int .i64 0) ∧ w' = w := by
  go_enter Try.func15, Try.ntmps15
  go_wp2
  go_ret
  exact ⟨rfl, rfl⟩
theorem qhas_nil (w : World) (id : Int) : Calls Try.prog 16 #[.pointer none, .int .i64 id] w fun e w' => e = .returned (.bool false) ∧ w' = w := by
  go_enter Try.func16, Try.ntmps16
  go_wp2
  go_ret
  exact ⟨rfl, rfl⟩
theorem qhas_in (h : Que w a n L) (y : QI) (hy : y ∈ L) : Calls Try.prog 16 #[.pointer (some ⟨a.q, 0, none⟩), .int .i64 y.tm.id] w fun e w' => e = .returned (.bool true) ∧ Below w.heap.size w w' := by
  have c1 := h.c1
  have hl := h.mh.look_some keyedI Try.underlying46 (zeroH w) y.tm.id (keyI (h.ok y hy).1.1) (hF_mem h.nd hy) true
  simp only [if_true, ik, hk] at hl
  clear h
  go_enter Try.func16, Try.ntmps16
  go_wp2
  go_ret
  exact ⟨rfl, one_below _ _⟩
theorem qhas_out (h : Que w a n L) (id : Int) (hid : isI id) (hn : id ∉ L.map (·.tm.id)) : Calls Try.prog 16 #[.pointer (some ⟨a.q, 0, none⟩), .int .i64 id] w fun e w' => e = .returned (.bool false) ∧ Below w.heap.size w w' := by
  have c1 := h.c1
  have hl := h.mh.look_none keyedI Try.underlying46 (zeroH w) id (keyI hid) (hF_none hn) true
  simp only [if_true, ik] at hl
  clear h
  go_enter Try.func16, Try.ntmps16
  go_wp2
  go_ret
  exact ⟨rfl, one_below _ _⟩
end
end Go.Proofs.Ytihfldjoogaolaa
