import Derived.Test.YtjjdkkdnlnbedaaGreatTreeE
import Derived.Test.YtjjdkkdnlnbedaaGreatQueA
import Derived.Test.YtjjdkkdnlnbedaaGreatQueM
import Derived.RegionTactic
import Derived.BigRegion
import Derived.Deep.QuietTactic
import Derived.BigQuiet
import Derived.Laws.Cover3
import Derived.Deep.DeepCutAuto
import Derived.Deep.RegionHeld3
namespace Go.Proofs.YtjjdkkdnlnbedaaGreat
open Go.RowKit Kt Qu
set_option linter.unusedVariables false

def tv (t : Tmr) : Value := .agg #[.int .i64 t.id, .int .i64 t.clock, .int .i64 t.soft, .int .i64 t.hard, .bool t.lazy]
def t0 : Tmr := ⟨0, 0, 0, 0, false⟩
def ik (i : Int) : Value := .int .i64 i
def hk (p : Nat × Int) : Value := .agg #[.int .i64 p.1, .int .i64 p.2]
theorem ik_inj (x y : Int) (h : ik x = ik y) : x = y := by cases h; rfl
theorem hk_inj (x y : Nat × Int) (h : hk x = hk y) : x = y := by
  obtain ⟨a, b⟩ := x
  obtain ⟨c, d⟩ := y
  unfold hk at h
  simp only [Value.agg.injEq] at h
  have h1 := congrArg (fun z => z[0]?) h
  have h2 := congrArg (fun z => z[1]?) h
  simp only [List.getElem?_toArray, List.getElem?_cons_zero, List.getElem?_cons_succ, Option.some.injEq, Value.int.injEq, true_and] at h1 h2
  rw [Prod.mk.injEq]
  exact ⟨by omega, h2⟩
theorem keyedI : Go.Maps.Keyed Tryz.prog 3 := Go.Maps.int_keyed Tryz.underlying3
theorem keyI {i : Int} (h : isI i) : (keyOf Tryz.prog 3 (ik i)).isSome = true := by
  rw [show keyOf Tryz.prog 3 (ik i) = some (.int .i64 i) from Go.Maps.keyOf_int_mk Tryz.underlying3 h]; rfl
theorem laidOutQ : laidOutB Tryz.prog = true := by kernel_rfl
theorem rowH : (123 : TypeId) < Tryz.prog.types.size := of_decide_eq_true (by kernel_rfl)
theorem typesPos : 0 < Tryz.prog.types.size := of_decide_eq_true (by kernel_rfl)
theorem wideH : (match Tryz.prog.underlying 123 with | some (.array _ _) | some (.struct _) => true | _ => false) = true := by kernel_rfl
set_option maxRecDepth 100000 in
theorem keyedH : Go.Maps.Keyed Tryz.prog 123 := Go.Maps.Keyed.of_law (deep_law_laid laidOutQ (m := 2) (by omega) rowH (by kernel_rfl) wideH)
theorem keyTypeH : Tryz.prog.keyType 123 = true := by kernel_rfl
theorem cellsH : Tryz.prog.cellsOf 123 = 2 := by kernel_rfl
theorem cellsI : Tryz.prog.cellsOf 3 = 1 := by kernel_rfl
theorem keyH {p : Nat × Int} (h1 : isI (p.1 : Int)) (h2 : isI p.2) : (keyOf Tryz.prog 123 (hk p)).isSome = true := by
  unfold isI at h1 h2
  have hf : (hk p).formed Tryz.prog 123 = true := by
    unfold hk
    simp [Value.formed, Tryz.underlying123, cellsH]
  have hs : Tryz.prog.types.size = Tryz.prog.types.size := rfl
  unfold keyOf
  rw [Tryz.underlying123]
  simp only [keyTypeH, hf, Bool.and_self, if_true]
  unfold Program.keyLits
  rw [Tryz.underlying123]
  obtain ⟨m, hm⟩ : ∃ m, Tryz.prog.types.size = m + 1 := ⟨Tryz.prog.types.size - 1, by have := typesPos; omega⟩
  rw [hm]
  unfold hk
  simp [Value.cells, cellsH, cellsI, Program.keyLits, Tryz.underlying3, h1, h2]
theorem zeroH (w : World) : (zeroValue 123).run Tryz.prog w = .ok (.agg #[.int .i64 0, .int .i64 0]) w := by kernel_rfl
theorem zeroT (w : World) : (zeroValue 35).run Tryz.prog w = .ok (.agg #[.int .i64 0, .int .i64 0, .int .i64 0, .int .i64 0, .bool false]) w := by kernel_rfl

/-- Where a queue lies: its own block, its tree's two, its two maps. -/
structure Qa where
  q : Nat
  t : Nat
  g : Nat
  mh : Nat
  mt : Nat
def Qa.foot (a : Qa) (k : Nat) : Prop := k = a.q ∨ k = a.t ∨ k = a.g ∨ k = a.mh ∨ k = a.mt
/-- All but its own block. -/
def Qa.in (a : Qa) (k : Nat) : Prop := k = a.t ∨ k = a.g ∨ k = a.mh ∨ k = a.mt
def QI.it (y : QI) : It := ⟨y.n, y.tu, clampZ y.tm.soft, 0⟩
def okT (t : Tmr) : Prop := isI t.id ∧ isI t.clock ∧ isI t.soft ∧ isI t.hard
structure Qa.Ap (a : Qa) : Prop where
  qt : a.q ≠ a.t
  qg : a.q ≠ a.g
  qh : a.q ≠ a.mh
  qm : a.q ≠ a.mt
  tg : a.t ≠ a.g
  th : a.t ≠ a.mh
  tm : a.t ≠ a.mt
  gh : a.g ≠ a.mh
  gm : a.g ≠ a.mt
  hm : a.mh ≠ a.mt
/-- A queue: its timers, in order, with their places; n stores have been done. -/
structure Que (w : World) (a : Qa) (n : Nat) (L : List QI) : Prop where
  blk : Blk w a.q 129 #[.pointer (some ⟨a.t, 0, none⟩), .map (some a.mh), .map (some a.mt)]
  tre : ∃ tf, Tre w a.t a.g 64 tf (L.map QI.it) ∧ ∀ x, 0 ≤ tf x ∧ tf x ≤ n
  mh : GMap Tryz.prog 3 ik hk w a.mh n (hF L) L.length
  mt : GMap Tryz.prog 123 hk tv w a.mt n (tF L) L.length
  nd : QNd L
  ok : ∀ y ∈ L, okT y.tm ∧ y.n ≤ 64 ∧ 0 ≤ y.tu ∧ y.tu ≤ n
  ap : a.Ap
  nb : n ≤ 1000000
section
variable {w w' : World} {a : Qa} {n : Nat} {L : List QI}
theorem Que.ft {F : Nat → Prop} (h : Que w a n L) (ht : Ft F w w') (hn : ∀ k, a.foot k → ¬ F k) : Que w' a n L := by
  obtain ⟨tf, ⟨st, t, fl, o, i, e, f⟩, htf⟩ := h.tre
  have hb := ht.block _ o.lt (hn _ (.inr (.inr (.inl rfl))))
  refine ⟨h.blk.ft ht (hn _ (.inl rfl)), ⟨tf, ⟨st, t, fl, ⟨o.hP, o.ne, o.box.ft ht (hn _ (.inr (.inl rfl))), ⟨fun i hi k hk => ?_, fun j => ?_⟩, Nat.lt_of_lt_of_le o.lt ht.size⟩, i, e, f⟩, htf⟩, h.mh.ft ht (hn _ (.inr (.inr (.inr (.inl rfl))))), h.mt.ft ht (hn _ (.inr (.inr (.inr (.inr rfl))))), h.nd, h.ok, h.ap, h.nb⟩
  · have := o.nod.cell i hi k hk
    unfold World.cell? at this ⊢
    simp only [hb]
    exact this
  · have := o.nod.free j
    unfold World.frozen? at this ⊢
    simp only [hb]
    exact this
theorem Que.below (h : Que w a n L) (hb : Below w.heap.size w w') : Que w' a n L := h.ft (Ft.of_below (fun _ => False) hb) (fun _ _ => id)
theorem Que.drewN (h : Que w a n L) (m : Nat) : Que (w.drewN m) a n L := h.ft ((Ft.refl (fun _ => False) w).drewN m) (fun _ _ => id)
theorem Que.len (h : Que w a n L) : L.length ≤ 64 := by
  obtain ⟨tf, t, _⟩ := h.tre
  have := t.len
  rwa [List.length_map] at this
theorem Que.lts (h : Que w a n L) : ∀ k, a.foot k → k < w.heap.size := by
  obtain ⟨tf, t, _⟩ := h.tre
  rintro k (rfl | rfl | rfl | rfl | rfl)
  · exact h.blk.lt
  · exact t.lts.1
  · exact t.lts.2.1
  · exact h.mh.lt
  · exact h.mt.lt
theorem Que.keyOf (h : Que w a n L) {y : QI} (hy : y ∈ L) : (keyOf Tryz.prog 123 (hk (y.n, y.tu))).isSome = true := by
  obtain ⟨_, o2, o3, o4⟩ := h.ok y hy
  have := h.nb
  exact keyH (isI_of (by omega) (by omega)) (isI_of (by omega) (by omega))
theorem Que.c0 (h : Que w a n L) : w.cell? ⟨a.q, 0, none⟩ = some (.pointer (some ⟨a.t, 0, none⟩)) := h.blk.cell 0
theorem Que.c1 (h : Que w a n L) : w.cell? ⟨a.q, 1, none⟩ = some (.map (some a.mh)) := h.blk.cell 1
theorem Que.c2 (h : Que w a n L) : w.cell? ⟨a.q, 2, none⟩ = some (.map (some a.mt)) := h.blk.cell 2
theorem Que.srt (h : Que w a n L) : SrtT (L.map (·.tm)) := by
  obtain ⟨tf, t, _⟩ := h.tre
  have := t.srt
  unfold SrtT
  rw [List.pairwise_map] at this ⊢
  refine this.imp fun {x y} hxy => ?_
  rcases klt_not.1 hxy with h1 | ⟨h1, _⟩
  · exact Int.le_of_lt h1
  · exact Int.le_of_eq h1.symm
end
theorem qnew_any (w : World) : Calls Tryz.prog 113 #[] w fun e w' => ∃ a : Qa, e = .returned (.pointer (some ⟨a.q, 0, none⟩)) ∧ Que w' a 0 [] ∧ Below w.heap.size w w' ∧ ∀ k, a.foot k → w.heap.size ≤ k := by
  have CN := fun w' => hide (tnew 64 (by omega) (by omega) w')
  rw [show ((64 : Nat) : Int) = 64 from rfl] at CN
  go_enter Tryz.func113, Tryz.ntmps113
  go_wp2_with (go_at_call 125; refine Hid.out ?_)
  refine hide ?_
  refine (unhide (CN _)).mono ?_
  rintro e w1 ⟨T, G, rfl, tr, hb, hT, hG⟩
  obtain ⟨b, hb1⟩ : ∃ b, w1.heap.size = b := ⟨_, rfl⟩
  have H := hide (And.intro tr (And.intro hb (And.intro hT hG)))
  clear tr hb hT hG CN
  have hmm := @run_makeMap Tryz.prog
  go_wp2
  go_ret
  obtain ⟨tr, hb, hT, hG⟩ := unhide H
  have l := tr.lts
  rw [hb1] at l
  have z1 : (w1.alloc (.map #[] 0)).heap.size = b + 1 := by rw [World.size_alloc, hb1]
  have z2 : ((w1.alloc (.map #[] 0)).alloc (.map #[] 0)).heap.size = b + 2 := by rw [World.size_alloc, z1]
  have h0 : w.heap.size ≤ b := by rw [← hb1]; exact hb.size
  have m1 : GMap Tryz.prog 3 ik hk (w1.alloc (.map #[] 0)) b 0 (fun _ => none) 0 := by rw [← hb1]; exact GMap.made w1
  have m2 : GMap Tryz.prog 123 hk tv ((w1.alloc (.map #[] 0)).alloc (.map #[] 0)) (b + 1) 0 (fun _ => none) 0 := by rw [← z1]; exact GMap.made _
  refine ⟨⟨b + 2, T, G, b, b + 1⟩, rfl, ?_, ?_, ?_⟩
  · refine ⟨Blk.new_at _ _ _ z2.symm, ⟨fun _ => 0, ((tr.below (one_below _ _)).below (one_below _ _)).below (one_below _ _), fun _ => ⟨Int.le_refl _, Int.le_refl _⟩⟩, ?_, ?_, ⟨by simp, by simp⟩, fun y hy => absurd hy (by simp), ?_, by omega⟩
    · exact ((m1.below (one_below _ _) (by rw [z1]; omega)).below (one_below _ _) (by rw [z2]; omega))
    · exact m2.below (one_below _ _) (by rw [z2]; omega)
    · exact ⟨by simp; omega, by simp; omega, by simp, by simp, l.2.2, by simp; omega, by simp; omega, by simp; omega, by simp; omega, by simp⟩
  · exact ((hb.alloc hb.size _).alloc (by rw [z1]; omega) _).alloc (by rw [z2]; omega) _
  · rintro k (rfl | rfl | rfl | rfl | rfl)
    · simp; omega
    · exact hT
    · exact hG
    · exact h0
    · simp; omega
section
variable {w : World} {a : Qa} {n : Nat} {L : List QI}
theorem qlen_any (h : Que w a n L) : Calls Tryz.prog 88 #[.pointer (some ⟨a.q, 0, none⟩)] w fun e w' => e = .returned (.int .i64 L.length) ∧ w' = w := by
  have c0 := h.c0
  obtain ⟨tf, t, _⟩ := h.tre
  have CL := hide (tlen a.t a.g 64 tf _ w t)
  rw [List.length_map] at CL
  clear h t
  go_enter Tryz.func88, Tryz.ntmps88
  go_wp2_with (go_at_call 108; refine (unhide CL).mono ?_; rintro e w' ⟨rfl, rfl⟩)
  go_ret
  exact ⟨rfl, rfl⟩
theorem qlen_nil (w : World) : Calls Tryz.prog 88 #[.pointer none] w fun e w' => e = .returned (.int .i64 0) ∧ w' = w := by
  go_enter Tryz.func88, Tryz.ntmps88
  go_wp2
  go_ret
  exact ⟨rfl, rfl⟩
theorem qhas_nil (w : World) (id : Int) : Calls Tryz.prog 107 #[.pointer none, .int .i64 id] w fun e w' => e = .returned (.bool false) ∧ w' = w := by
  go_enter Tryz.func107, Tryz.ntmps107
  go_wp2
  go_ret
  exact ⟨rfl, rfl⟩
theorem qhas_in (h : Que w a n L) (y : QI) (hy : y ∈ L) : Calls Tryz.prog 107 #[.pointer (some ⟨a.q, 0, none⟩), .int .i64 y.tm.id] w fun e w' => e = .returned (.bool true) ∧ Below w.heap.size w w' := by
  have c1 := h.c1
  have hl := h.mh.look_some keyedI Tryz.underlying126 (zeroH w) y.tm.id (keyI (h.ok y hy).1.1) (hF_mem h.nd hy) true
  simp only [if_true, ik, hk] at hl
  clear h
  go_enter Tryz.func107, Tryz.ntmps107
  go_wp2
  go_ret
  exact ⟨rfl, one_below _ _⟩
theorem qhas_out (h : Que w a n L) (id : Int) (hid : isI id) (hn : id ∉ L.map (·.tm.id)) : Calls Tryz.prog 107 #[.pointer (some ⟨a.q, 0, none⟩), .int .i64 id] w fun e w' => e = .returned (.bool false) ∧ Below w.heap.size w w' := by
  have c1 := h.c1
  have hl := h.mh.look_none keyedI Tryz.underlying126 (zeroH w) id (keyI hid) (hF_none hn) true
  simp only [if_true, ik] at hl
  clear h
  go_enter Tryz.func107, Tryz.ntmps107
  go_wp2
  go_ret
  exact ⟨rfl, one_below _ _⟩
end
end Go.Proofs.YtjjdkkdnlnbedaaGreat


namespace Go.Proofs.YtjjdkkdnlnbedaaGreat
open Go.RowKit Kt Qu
set_option linter.unusedVariables false

def Qa.tg (a : Qa) (k : Nat) : Prop := k = a.t ∨ k = a.g
theorem Ft.of_touch {T G : Nat} {F : Nat → Prop} {w w' : World} (h : Touch T G w w') (hT : F T) (hG : F G) : Ft F w w' :=
  ⟨h.os, h.tape, h.output, h.size, fun k hk hn => h.block k hk (fun e => hn (e ▸ hT)) (fun e => hn (e ▸ hG))⟩
theorem Tre.ft {w w' : World} {T G P : Nat} {tf : Nat → Int} {L : List It} {F : Nat → Prop} (h : Tre w T G P tf L) (ht : Ft F w w') (hT : ¬ F T) (hG : ¬ F G) : Tre w' T G P tf L := by
  obtain ⟨st, t, fl, o, i, e, f⟩ := h
  have hb := ht.block _ o.lt hG
  refine ⟨st, t, fl, ⟨o.hP, o.ne, o.box.ft ht hT, ⟨fun i hi k hk => ?_, fun j => ?_⟩, Nat.lt_of_lt_of_le o.lt ht.size⟩, i, e, f⟩
  · have := o.nod.cell i hi k hk
    unfold World.cell? at this ⊢
    simp only [hb]
    exact this
  · have := o.nod.free j
    unfold World.frozen? at this ⊢
    simp only [hb]
    exact this
theorem tput_full (T G P : Nat) (tf : Nat → Int) (L : List It) (w : World) (h : Tre w T G P tf L) (hl : L.length = P) (a b : Int) :
    Calls Tryz.prog 114 #[.pointer (some ⟨T, 0, none⟩), .agg #[.int .i64 a, .int .i64 b]] w fun e w' => e = .returned (.tuple #[.agg #[.int .i64 0, .int .i64 0], .int .i64 3]) ∧ Below w.heap.size w w' := by
  obtain ⟨st, t, fl, o, i, rfl, f⟩ := h
  rw [List.length_map] at hl
  have hfl : fl = [] := by
    have := i.cover
    exact List.eq_nil_of_length_eq_zero (by omega)
  subst hfl
  exact put_full T G P st w o i.chain a b
/-- A box that was laid right ahead of a call holds what it held. -/
theorem box_below {W wp : World} {cs : Array Value} {t : TypeId} (h : Below (W.alloc (.cells cs t)).heap.size (W.alloc (.cells cs t)) wp) : Blk wp W.heap.size t cs :=
  (Blk.new W t cs).below h (Blk.new W t cs).lt
theorem box_ft {F : Nat → Prop} {W wp w1 : World} {cs : Array Value} {t : TypeId} (h : Ft F (W.alloc (.cells cs t)) wp) (hF : ∀ k, F k → k < w1.heap.size) (hb : w1.heap.size ≤ W.heap.size) : Blk wp W.heap.size t cs :=
  (Blk.new W t cs).ft h (fun hk => by have := hF _ hk; omega)
theorem ft_set2 {F : Nat → Prop} {w w' : World} {b : Nat} (h : Ft F w w') (hb : w.heap.size ≤ b) (u v : Value) : Ft F w ((w'.setCell ⟨b, 0, none⟩ u).setCell ⟨b, 1, none⟩ v) := (h.set (.inr hb) 0 u).set (.inr hb) 1 v
theorem below_set2 {B : Nat} {w w' : World} {b : Nat} (h : Below B w w') (hb : B ≤ b) (u v : Value) : Below B w ((w'.setCell ⟨b, 0, none⟩ u).setCell ⟨b, 1, none⟩ v) := (h.setCell (p := ⟨b, 0, none⟩) hb u).setCell (p := ⟨b, 1, none⟩) hb v
section
variable {w : World} {a : Qa} {n : Nat} {L : List QI}
/-- What the tree comes to. -/
theorem qtree_put (h : Que w a n L) (hl : L.length < 64) (hn : n < 1000000) (t : Tmr) :
    Calls Tryz.prog 114 #[.pointer (some ⟨a.t, 0, none⟩), .agg #[.int .i64 (clampZ t.soft), .int .i64 0]] w fun e w' => ∃ (x : QI) (A B : List QI), x.tm = t ∧ e = .returned (.tuple #[.agg #[.int .i64 x.n, .int .i64 x.tu], .int .i64 0]) ∧ L = A ++ B ∧
      x.n ≤ 64 ∧ 0 ≤ x.tu ∧ x.tu ≤ ((n + 1 : Nat) : Int) ∧ (∀ y ∈ L, y.n ≠ x.n) ∧ (A ++ x :: B).map (·.tm) = insT t (L.map (·.tm)) ∧ (∃ tf, Tre w' a.t a.g 64 tf ((A ++ x :: B).map QI.it) ∧ ∀ y, 0 ≤ tf y ∧ tf y ≤ ((n + 1 : Nat) : Int)) ∧ Ft a.tg w w' := by
  obtain ⟨tf, tr, htf⟩ := h.tre
  refine (tput a.t a.g 64 tf (L.map QI.it) w tr (by rw [List.length_map]; exact hl) (fun x => ⟨(htf x).1, by have := (htf x).2; omega⟩) (clampZ t.soft) 0).mono ?_
  rintro e w' ⟨nn, pre, post, rfl, n1, n2, n3, l3, q1, q2, tr3, tt3⟩
  obtain ⟨A, B, rfl, rfl, rfl⟩ := List.map_eq_append_iff.1 l3
  refine ⟨⟨nn, tf nn + 1, t⟩, A, B, rfl, rfl, rfl, n2, ?_, ?_, ?_, ?_, ⟨fun x => if x = nn then tf nn + 1 else tf x, ?_, ?_⟩, Ft.of_touch tt3 (.inl rfl) (.inr rfl)⟩
  · have := (htf nn).1; show 0 ≤ tf nn + 1; omega
  · have := (htf nn).2; show tf nn + 1 ≤ _; omega
  · intro y hy e
    exact n3 _ (List.mem_map.2 ⟨y, hy, rfl⟩) e
  · rw [List.map_append, List.map_append, List.map_cons, insT_split t]
    · intro y hy
      obtain ⟨z, hz, rfl⟩ := List.mem_map.1 hy
      have := q1 _ (List.mem_map.2 ⟨z, hz, rfl⟩)
      rcases klt_not.1 this with h1 | ⟨h1, _⟩
      · exact Int.le_of_lt h1
      · exact Int.le_of_eq h1.symm
    · intro y hy
      obtain ⟨z, hz, rfl⟩ := List.mem_map.1 hy
      have := q2 _ (List.mem_map.2 ⟨z, hz, rfl⟩)
      rcases klt_iff.1 this with h1 | ⟨_, h1⟩
      · exact h1
      · exact absurd h1 (by show ¬ (0 : Int) < 0; omega)
  · rw [List.map_append, List.map_cons]
    exact tr3
  · intro y
    have h1 := htf y
    have h2 := htf nn
    show 0 ≤ (if y = nn then tf nn + 1 else tf y) ∧ (if y = nn then tf nn + 1 else tf y) ≤ _
    split <;> omega
theorem qadd_nil (w : World) (t : Tmr) : Calls Tryz.prog 93 #[.pointer none, tv t] w fun e w' => e = .returned (.int .i64 1) ∧ Below w.heap.size w w' := by
  unfold tv
  go_enter Tryz.func93, Tryz.ntmps93
  go_wp2
  go_ret
  exact ⟨rfl, one_below _ _⟩
theorem qadd_inval (q : Nat) (w : World) (t : Tmr) (h : t.hard < t.soft) : Calls Tryz.prog 93 #[.pointer (some ⟨q, 0, none⟩), tv t] w fun e w' => e = .returned (.int .i64 2) ∧ Below w.heap.size w w' := by
  obtain ⟨id, cl, so, ha, la⟩ := t
  simp only at h
  unfold tv
  simp only
  go_enter Tryz.func93, Tryz.ntmps93
  go_wp2
  go_ret
  exact ⟨rfl, one_below _ _⟩
theorem qadd_busy (h : Que w a n L) (t : Tmr) (hs : ¬ t.hard < t.soft) (hid : t.id ∈ L.map (·.tm.id)) : Calls Tryz.prog 93 #[.pointer (some ⟨a.q, 0, none⟩), tv t] w fun e w' => e = .returned (.int .i64 9) ∧ Below w.heap.size w w' := by
  obtain ⟨y, hy, hyi⟩ := List.mem_map.1 hid
  obtain ⟨id, cl, so, ha, la⟩ := t
  simp only at hs hyi
  have CH := hide (fun o => qhas_in (h.below (one_below w o)) y hy)
  simp only [hyi] at CH
  unfold tv
  simp only
  clear hy hyi h hid
  go_enter Tryz.func93, Tryz.ntmps93
  go_wp2_with (go_at_call 107; refine (unhide CH _).mono ?_; rintro e w' ⟨rfl, hb⟩)
  go_ret
  exact ⟨rfl, (one_below _ _).trans (hb.mono (one_below _ _).size)⟩
set_option maxRecDepth 100000 in
set_option maxHeartbeats 1000000 in
theorem qadd_full (h : Que w a n L) (t : Tmr) (hs : ¬ t.hard < t.soft) (hid : isI t.id) (hin : t.id ∉ L.map (·.tm.id)) (hl : L.length = 64) : Calls Tryz.prog 93 #[.pointer (some ⟨a.q, 0, none⟩), tv t] w fun e w' => e = .returned (.int .i64 3) ∧ Below w.heap.size w w' := by
  obtain ⟨id, cl, so, ha, la⟩ := t
  simp only at hs hin hid
  obtain ⟨B0, hB0⟩ : ∃ b, w.heap.size = b := ⟨_, rfl⟩
  obtain ⟨W0, hW0⟩ : ∃ W0, W0 = w.alloc (.cells #[.int .i64 id, .int .i64 cl, .int .i64 so, .int .i64 ha, .bool la] 35) := ⟨_, rfl⟩
  have b0 : Below w.heap.size w W0 := by rw [hW0]; exact one_below _ _
  have k0 : Blk W0 B0 35 #[.int .i64 id, .int .i64 cl, .int .i64 so, .int .i64 ha, .bool la] := by rw [hW0]; exact Blk.new_at _ _ _ hB0.symm
  have h0 := h.below b0
  have HW := hide hW0
  have CH := hide (qhas_out h0 id hid hin)
  have H0 := hide (And.intro h0 (And.intro k0 b0))
  have x0 := k0.cell 0
  have x2 := k0.cell 2
  have x3 := k0.cell 3
  simp only [List.getElem?_toArray, List.getElem?_cons_zero, List.getElem?_cons_succ] at x0 x2 x3
  rw [hW0] at x0 x2 x3
  obtain ⟨C, hC⟩ : ∃ C, clampZ so = C := ⟨_, rfl⟩
  have CK := fun w' => hide (kclamp_any so w')
  rw [hC] at CK
  have HL := hide hl
  clear h h0 k0 b0 hid hin hW0 hl hC
  unfold tv
  simp only
  go_enter Tryz.func93, Tryz.ntmps93
  go_wp2_with (go_at_call 107; refine Hid.out ?_)
  refine hide ?_
  rw [← unhide HW]
  refine (unhide CH).mono ?_
  rintro e w1 ⟨rfl, hb1⟩
  obtain ⟨h0, k0, b0⟩ := unhide H0
  have h1 := h0.below hb1
  have k1 := k0.below hb1 k0.lt
  have c0 := h1.c0
  have d0 := k1.cell 0
  have d2 := k1.cell 2
  simp only [List.getElem?_toArray, List.getElem?_cons_zero, List.getElem?_cons_succ] at d0 d2
  have CT := hide (fun w2 (hb : Below w1.heap.size w1 w2) => (h1.below hb).tre.elim fun tf x => tput_full a.t a.g 64 tf _ w2 x.1 (by rw [List.length_map]; exact unhide HL) C 0)
  have H1 := hide (And.intro (b0.trans (hb1.mono b0.size)) (And.intro hb1.size b0.size))
  have hdr : Below w1.heap.size w1 w1.drew := below_drew (Below.refl _ _)
  have K0 := fun w2 (hb : Below w1.heap.size w1 w2) => hb.cell (p := ⟨a.q, 0, none⟩) (h1.lts _ (.inl rfl))
  have K2 := fun w2 (hb : Below w1.heap.size w1 w2) => hb.cell (p := ⟨B0, 2, none⟩) k1.lt
  simp only [c0, d2] at K0 K2
  clear h0 k0 b0 h1 k1 hb1 x0 x2 x3 HW CH H0
  go_wp2_with fail
  go_cut [5, 6] (fun s5 s6 wx => ∃ B : Nat, s5 = .pointer (some ⟨B, 0, none⟩) ∧ s6 = .int .i64 3 ∧ Below w1.heap.size w1 wx)
  case first =>
    refine wp_region_held_drew (S := (fun w' => Below w1.heap.size w1 w')) (by kernel_rfl) ?_ (fun hHeld => ?_)
    · (first | (with_reducible assumption) | (with_reducible exact Below.alloc (by assumption) (Below.size (by assumption)) _) | (with_reducible exact below_set2 (by assumption) (Below.size (by assumption)) _ _))
    generalize World.drew _ = wd at *
    refine wpAnyH_take (i := 0) (oi := ?o1) (v := ?v1) ?hi1 (by kernel_rfl) (by kernel_rfl) (by kernel_rfl) ?hQ1 (Or.inl ⟨?hw1, ?hy1⟩) (by assumption) ?_
    case hi1 => (simp only [List.getElem?_toArray, List.getElem?_cons_zero]; rfl)
    case hQ1 => exact fun _ _ _ h => h
    case hw1 => rfl
    case hy1 => (intro w hSw; (try dsimp only at hSw); go_simp; (try with_reducible rfl))
    simp only [Act.put, List.setIfInBounds_toArray, List.set_cons_zero, List.set_cons_succ]
    refine wpAnyH_take (i := 1) (oi := ?o2) (v := ?v2) ?hi2 (by kernel_rfl) (by kernel_rfl) (by kernel_rfl) ?hQ2 (Or.inl ⟨?hw2, ?hy2⟩) (by assumption) ?_
    case hi2 => (simp only [List.getElem?_toArray, List.getElem?_cons_succ, List.getElem?_cons_zero]; rfl)
    case hQ2 => exact fun _ _ _ h => h
    case hw2 => rfl
    case hy2 => (intro w hSw; (try dsimp only at hSw); go_simp; (try with_reducible rfl))
    simp only [Act.put, List.setIfInBounds_toArray, List.set_cons_zero, List.set_cons_succ]
    refine wpAnyH_take (i := 2) (oi := ?o3) (v := ?v3) ?hi3 (by kernel_rfl) (by kernel_rfl) (by kernel_rfl) ?hQ3 (Or.inl ⟨?hw3, ?hy3⟩) (by assumption) ?_
    case hi3 => (simp only [List.getElem?_toArray, List.getElem?_cons_succ, List.getElem?_cons_zero]; rfl)
    case hQ3 => exact fun _ _ _ h => h
    case hw3 => rfl
    case hy3 => (intro w hSw; (try dsimp only at hSw); go_simp; (try with_reducible rfl))
    simp only [Act.put, List.setIfInBounds_toArray, List.set_cons_zero, List.set_cons_succ]
    refine wpAnyH_take (i := 3) (oi := ?o4) (v := ?v4) ?hi4 (by kernel_rfl) (by kernel_rfl) (by kernel_rfl) ?hQ4 (Or.inl ⟨?hw4, ?hy4⟩) (by assumption) ?_
    case hi4 => (simp only [List.getElem?_toArray, List.getElem?_cons_succ, List.getElem?_cons_zero]; rfl)
    case hQ4 => exact fun _ _ _ h => h
    case hw4 => rfl
    case hy4 => (intro w hSw; (try dsimp only at hSw); go_simp; (try with_reducible rfl))
    simp only [Act.put, List.setIfInBounds_toArray, List.set_cons_zero, List.set_cons_succ]
    refine wpAnyH_take (i := 4) (oi := ?o5) (v := ?v5) ?hi5 (by kernel_rfl) (by kernel_rfl) (by kernel_rfl) ?hQ5 (Or.inl ⟨?hw5, ?hy5⟩) (by assumption) ?_
    case hi5 => (simp only [List.getElem?_toArray, List.getElem?_cons_succ, List.getElem?_cons_zero]; rfl)
    case hQ5 => exact fun _ _ _ h => h
    case hw5 => rfl
    case hy5 => (intro w hSw; (try dsimp only at hSw); go_simp; (try with_reducible rfl))
    simp only [Act.put, List.setIfInBounds_toArray, List.set_cons_zero, List.set_cons_succ]
    refine wpAnyH_take (i := 5) (oi := ?o6) (v := ?v6) ?hi6 (by kernel_rfl) (by kernel_rfl) (by kernel_rfl) ?hQ6 (Or.inl ⟨?hw6, ?hy6⟩) (by assumption) ?_
    case hi6 => (simp only [List.getElem?_toArray, List.getElem?_cons_succ, List.getElem?_cons_zero]; rfl)
    case hQ6 => exact fun _ _ _ h => h
    case hw6 => rfl
    case hy6 => (intro w hSw; (try dsimp only at hSw); go_simp; (try with_reducible rfl))
    simp only [Act.put, List.setIfInBounds_toArray, List.set_cons_zero, List.set_cons_succ]
    refine wpAnyH_ready (rs := [6, 12]) (by kernel_rfl) (by simp) ?_
    refine AllReadyH.cons (o := ?o7) ?hi7 (fun K hK => ?_) (AllReadyH.cons (o := ?p7) ?hj7 (fun K hK => ?_) AllReadyH.nil)
    case hi7 => (simp only [List.getElem?_toArray, List.getElem?_cons_succ, List.getElem?_cons_zero]; rfl)
    case hj7 => (simp only [List.getElem?_toArray, List.getElem?_cons_succ, List.getElem?_cons_zero]; rfl)
    · go_simp
      (first | (go_at_call 98; refine (unhide (CK _)).mono ?_; rintro e wk ⟨rfl, rfl⟩) | (go_at_call 114; refine (unhide CT _ (by assumption)).mono ?_; rintro e wp ⟨rfl, hbp⟩; have hbq := Below.trans (by assumption) (Below.mono hbp (Below.size (by assumption))); (try (have kq := box_below hbp; have q0 := kq.cell 0; have q1 := kq.cell 1; have q2 := kq.free; simp only [List.getElem?_toArray, List.getElem?_cons_zero, List.getElem?_cons_succ] at q0 q1; clear kq)); clear hbp))
      refine hK.out _ _ ?_ (fun hHeld => ?_)
      · (first | (with_reducible assumption) | (with_reducible exact Below.alloc (by assumption) (Below.size (by assumption)) _) | (with_reducible exact below_set2 (by assumption) (Below.size (by assumption)) _ _))
      clear hK K
      refine wpAnyH_take (i := 7) (oi := ?o8) (v := ?v8) ?hi8 (by kernel_rfl) (by kernel_rfl) (by kernel_rfl) ?hQ8 (Or.inl ⟨?hw8, ?hy8⟩) (by assumption) ?_
      case hi8 => (simp only [List.getElem?_toArray, List.getElem?_cons_succ, List.getElem?_cons_zero]; rfl)
      case hQ8 => exact fun _ _ _ h => h
      case hw8 => rfl
      case hy8 => (intro w hSw; (try dsimp only at hSw); go_simp; (try with_reducible rfl))
      simp only [Act.put, List.setIfInBounds_toArray, List.set_cons_zero, List.set_cons_succ]
      refine wpAnyH_ready (rs := [8, 12]) (by kernel_rfl) (by simp) ?_
      refine AllReadyH.cons (o := ?o9) ?hi9 (fun K hK => ?_) (AllReadyH.cons (o := ?p9) ?hj9 (fun K hK => ?_) AllReadyH.nil)
      case hi9 => (simp only [List.getElem?_toArray, List.getElem?_cons_succ, List.getElem?_cons_zero]; rfl)
      case hj9 => (simp only [List.getElem?_toArray, List.getElem?_cons_succ, List.getElem?_cons_zero]; rfl)
      · go_simp
        (first | (go_at_call 98; refine (unhide (CK _)).mono ?_; rintro e wk ⟨rfl, rfl⟩) | (go_at_call 114; refine (unhide CT _ (by assumption)).mono ?_; rintro e wp ⟨rfl, hbp⟩; have hbq := Below.trans (by assumption) (Below.mono hbp (Below.size (by assumption))); (try (have kq := box_below hbp; have q0 := kq.cell 0; have q1 := kq.cell 1; have q2 := kq.free; simp only [List.getElem?_toArray, List.getElem?_cons_zero, List.getElem?_cons_succ] at q0 q1; clear kq)); clear hbp))
        refine hK.out _ _ ?_ (fun hHeld => ?_)
        · (first | (with_reducible assumption) | (with_reducible exact Below.alloc (by assumption) (Below.size (by assumption)) _) | (with_reducible exact below_set2 (by assumption) (Below.size (by assumption)) _ _))
        clear hK K
        refine wpAnyH_take (i := 9) (oi := ?o10) (v := ?v10) ?hi10 (by kernel_rfl) (by kernel_rfl) (by kernel_rfl) ?hQ10 (Or.inl ⟨?hw10, ?hy10⟩) (by assumption) ?_
        case hi10 => (simp only [List.getElem?_toArray, List.getElem?_cons_succ, List.getElem?_cons_zero]; rfl)
        case hQ10 => exact fun _ _ _ h => h
        case hw10 => rfl
        case hy10 => (intro w hSw; (try dsimp only at hSw); go_simp; (try with_reducible rfl))
        simp only [Act.put, List.setIfInBounds_toArray, List.set_cons_zero, List.set_cons_succ]
        refine wpAnyH_take (i := 10) (oi := ?o11) (v := ?v11) ?hi11 (by kernel_rfl) (by kernel_rfl) (by kernel_rfl) ?hQ11 (Or.inl ⟨?hw11, ?hy11⟩) (by assumption) ?_
        case hi11 => (simp only [List.getElem?_toArray, List.getElem?_cons_succ, List.getElem?_cons_zero]; rfl)
        case hQ11 => exact fun _ _ _ h => h
        case hw11 => rfl
        case hy11 => (intro w hSw; (try dsimp only at hSw); go_simp; (try with_reducible rfl))
        simp only [Act.put, List.setIfInBounds_toArray, List.set_cons_zero, List.set_cons_succ]
        refine wpAnyH_take (i := 11) (oi := ?o12) (v := ?v12) ?hi12 (by kernel_rfl) (by kernel_rfl) (by kernel_rfl) ?hQ12 (Or.inl ⟨?hw12, ?hy12⟩) (by assumption) ?_
        case hi12 => (simp only [List.getElem?_toArray, List.getElem?_cons_succ, List.getElem?_cons_zero]; rfl)
        case hQ12 => exact fun _ _ _ h => h
        case hw12 => rfl
        case hy12 => (intro w hSw; (try dsimp only at hSw); go_simp; (try with_reducible rfl))
        simp only [Act.put, List.setIfInBounds_toArray, List.set_cons_zero, List.set_cons_succ]
        refine wpAnyH_ready (rs := [12]) (by kernel_rfl) (by simp) ?_
        refine AllReadyH.cons (o := ?o13) ?hi13 (fun K hK => ?_) AllReadyH.nil
        case hi13 => (simp only [List.getElem?_toArray, List.getElem?_cons_succ, List.getElem?_cons_zero]; rfl)
        go_simp
        skip
        refine hK.out _ _ ?_ (fun hHeld => ?_)
        · (first | (with_reducible assumption) | (with_reducible exact Below.alloc (by assumption) (Below.size (by assumption)) _) | (with_reducible exact below_set2 (by assumption) (Below.size (by assumption)) _ _))
        clear hK K
        refine wpAnyH_ready (rs := [13]) (by kernel_rfl) (by simp) ?_
        refine AllReadyH.cons (o := ?o14) ?hi14 (fun K hK => ?_) AllReadyH.nil
        case hi14 => (simp only [List.getElem?_toArray, List.getElem?_cons_succ, List.getElem?_cons_zero]; rfl)
        go_simp
        skip
        refine hK.out _ _ ?_ (fun hHeld => ?_)
        · (first | (with_reducible assumption) | (with_reducible exact Below.alloc (by assumption) (Below.size (by assumption)) _) | (with_reducible exact below_set2 (by assumption) (Below.size (by assumption)) _ _))
        clear hK K
        refine wpAnyH_take (i := 14) (oi := ?o15) (v := ?v15) ?hi15 (by kernel_rfl) (by kernel_rfl) (by kernel_rfl) ?hQ15 (Or.inl ⟨?hw15, ?hy15⟩) (by assumption) ?_
        case hi15 => (simp only [List.getElem?_toArray, List.getElem?_cons_succ, List.getElem?_cons_zero]; rfl)
        case hQ15 => exact fun _ _ _ h => h
        case hw15 => rfl
        case hy15 => (intro w hSw; (try dsimp only at hSw); go_simp; (try with_reducible rfl))
        simp only [Act.put, List.setIfInBounds_toArray, List.set_cons_zero, List.set_cons_succ]
        refine wpAnyH_done (by kernel_rfl) ?_ _
        go_wp2_with fail; go_meet; refine ⟨_, rfl, rfl, ?_⟩; (with_reducible assumption)
      · go_simp
        refine hK.out _ _ ?_ (fun hHeld => ?_)
        · (first | (with_reducible assumption) | (with_reducible exact Below.alloc (by assumption) (Below.size (by assumption)) _) | (with_reducible exact below_set2 (by assumption) (Below.size (by assumption)) _ _))
        clear hK K
        refine wpAnyH_ready (rs := [8]) (by kernel_rfl) (by simp) ?_
        refine AllReadyH.cons (o := ?o16) ?hi16 (fun K hK => ?_) AllReadyH.nil
        case hi16 => (simp only [List.getElem?_toArray, List.getElem?_cons_succ, List.getElem?_cons_zero]; rfl)
        go_simp
        (first | (go_at_call 98; refine (unhide (CK _)).mono ?_; rintro e wk ⟨rfl, rfl⟩) | (go_at_call 114; refine (unhide CT _ (by assumption)).mono ?_; rintro e wp ⟨rfl, hbp⟩; have hbq := Below.trans (by assumption) (Below.mono hbp (Below.size (by assumption))); (try (have kq := box_below hbp; have q0 := kq.cell 0; have q1 := kq.cell 1; have q2 := kq.free; simp only [List.getElem?_toArray, List.getElem?_cons_zero, List.getElem?_cons_succ] at q0 q1; clear kq)); clear hbp))
        refine hK.out _ _ ?_ (fun hHeld => ?_)
        · (first | (with_reducible assumption) | (with_reducible exact Below.alloc (by assumption) (Below.size (by assumption)) _) | (with_reducible exact below_set2 (by assumption) (Below.size (by assumption)) _ _))
        clear hK K
        refine wpAnyH_take (i := 9) (oi := ?o17) (v := ?v17) ?hi17 (by kernel_rfl) (by kernel_rfl) (by kernel_rfl) ?hQ17 (Or.inl ⟨?hw17, ?hy17⟩) (by assumption) ?_
        case hi17 => (simp only [List.getElem?_toArray, List.getElem?_cons_succ, List.getElem?_cons_zero]; rfl)
        case hQ17 => exact fun _ _ _ h => h
        case hw17 => rfl
        case hy17 => (intro w hSw; (try dsimp only at hSw); go_simp; (try with_reducible rfl))
        simp only [Act.put, List.setIfInBounds_toArray, List.set_cons_zero, List.set_cons_succ]
        refine wpAnyH_take (i := 10) (oi := ?o18) (v := ?v18) ?hi18 (by kernel_rfl) (by kernel_rfl) (by kernel_rfl) ?hQ18 (Or.inl ⟨?hw18, ?hy18⟩) (by assumption) ?_
        case hi18 => (simp only [List.getElem?_toArray, List.getElem?_cons_succ, List.getElem?_cons_zero]; rfl)
        case hQ18 => exact fun _ _ _ h => h
        case hw18 => rfl
        case hy18 => (intro w hSw; (try dsimp only at hSw); go_simp; (try with_reducible rfl))
        simp only [Act.put, List.setIfInBounds_toArray, List.set_cons_zero, List.set_cons_succ]
        refine wpAnyH_take (i := 11) (oi := ?o19) (v := ?v19) ?hi19 (by kernel_rfl) (by kernel_rfl) (by kernel_rfl) ?hQ19 (Or.inl ⟨?hw19, ?hy19⟩) (by assumption) ?_
        case hi19 => (simp only [List.getElem?_toArray, List.getElem?_cons_succ, List.getElem?_cons_zero]; rfl)
        case hQ19 => exact fun _ _ _ h => h
        case hw19 => rfl
        case hy19 => (intro w hSw; (try dsimp only at hSw); go_simp; (try with_reducible rfl))
        simp only [Act.put, List.setIfInBounds_toArray, List.set_cons_zero, List.set_cons_succ]
        refine wpAnyH_ready (rs := [13]) (by kernel_rfl) (by simp) ?_
        refine AllReadyH.cons (o := ?o20) ?hi20 (fun K hK => ?_) AllReadyH.nil
        case hi20 => (simp only [List.getElem?_toArray, List.getElem?_cons_succ, List.getElem?_cons_zero]; rfl)
        go_simp
        skip
        refine hK.out _ _ ?_ (fun hHeld => ?_)
        · (first | (with_reducible assumption) | (with_reducible exact Below.alloc (by assumption) (Below.size (by assumption)) _) | (with_reducible exact below_set2 (by assumption) (Below.size (by assumption)) _ _))
        clear hK K
        refine wpAnyH_take (i := 14) (oi := ?o21) (v := ?v21) ?hi21 (by kernel_rfl) (by kernel_rfl) (by kernel_rfl) ?hQ21 (Or.inl ⟨?hw21, ?hy21⟩) (by assumption) ?_
        case hi21 => (simp only [List.getElem?_toArray, List.getElem?_cons_succ, List.getElem?_cons_zero]; rfl)
        case hQ21 => exact fun _ _ _ h => h
        case hw21 => rfl
        case hy21 => (intro w hSw; (try dsimp only at hSw); go_simp; (try with_reducible rfl))
        simp only [Act.put, List.setIfInBounds_toArray, List.set_cons_zero, List.set_cons_succ]
        refine wpAnyH_done (by kernel_rfl) ?_ _
        go_wp2_with fail; go_meet; refine ⟨_, rfl, rfl, ?_⟩; (with_reducible assumption)
    · go_simp
      refine hK.out _ _ ?_ (fun hHeld => ?_)
      · (first | (with_reducible assumption) | (with_reducible exact Below.alloc (by assumption) (Below.size (by assumption)) _) | (with_reducible exact below_set2 (by assumption) (Below.size (by assumption)) _ _))
      clear hK K
      refine wpAnyH_ready (rs := [6]) (by kernel_rfl) (by simp) ?_
      refine AllReadyH.cons (o := ?o22) ?hi22 (fun K hK => ?_) AllReadyH.nil
      case hi22 => (simp only [List.getElem?_toArray, List.getElem?_cons_succ, List.getElem?_cons_zero]; rfl)
      go_simp
      (first | (go_at_call 98; refine (unhide (CK _)).mono ?_; rintro e wk ⟨rfl, rfl⟩) | (go_at_call 114; refine (unhide CT _ (by assumption)).mono ?_; rintro e wp ⟨rfl, hbp⟩; have hbq := Below.trans (by assumption) (Below.mono hbp (Below.size (by assumption))); (try (have kq := box_below hbp; have q0 := kq.cell 0; have q1 := kq.cell 1; have q2 := kq.free; simp only [List.getElem?_toArray, List.getElem?_cons_zero, List.getElem?_cons_succ] at q0 q1; clear kq)); clear hbp))
      refine hK.out _ _ ?_ (fun hHeld => ?_)
      · (first | (with_reducible assumption) | (with_reducible exact Below.alloc (by assumption) (Below.size (by assumption)) _) | (with_reducible exact below_set2 (by assumption) (Below.size (by assumption)) _ _))
      clear hK K
      refine wpAnyH_take (i := 7) (oi := ?o23) (v := ?v23) ?hi23 (by kernel_rfl) (by kernel_rfl) (by kernel_rfl) ?hQ23 (Or.inl ⟨?hw23, ?hy23⟩) (by assumption) ?_
      case hi23 => (simp only [List.getElem?_toArray, List.getElem?_cons_succ, List.getElem?_cons_zero]; rfl)
      case hQ23 => exact fun _ _ _ h => h
      case hw23 => rfl
      case hy23 => (intro w hSw; (try dsimp only at hSw); go_simp; (try with_reducible rfl))
      simp only [Act.put, List.setIfInBounds_toArray, List.set_cons_zero, List.set_cons_succ]
      refine wpAnyH_ready (rs := [8]) (by kernel_rfl) (by simp) ?_
      refine AllReadyH.cons (o := ?o24) ?hi24 (fun K hK => ?_) AllReadyH.nil
      case hi24 => (simp only [List.getElem?_toArray, List.getElem?_cons_succ, List.getElem?_cons_zero]; rfl)
      go_simp
      (first | (go_at_call 98; refine (unhide (CK _)).mono ?_; rintro e wk ⟨rfl, rfl⟩) | (go_at_call 114; refine (unhide CT _ (by assumption)).mono ?_; rintro e wp ⟨rfl, hbp⟩; have hbq := Below.trans (by assumption) (Below.mono hbp (Below.size (by assumption))); (try (have kq := box_below hbp; have q0 := kq.cell 0; have q1 := kq.cell 1; have q2 := kq.free; simp only [List.getElem?_toArray, List.getElem?_cons_zero, List.getElem?_cons_succ] at q0 q1; clear kq)); clear hbp))
      refine hK.out _ _ ?_ (fun hHeld => ?_)
      · (first | (with_reducible assumption) | (with_reducible exact Below.alloc (by assumption) (Below.size (by assumption)) _) | (with_reducible exact below_set2 (by assumption) (Below.size (by assumption)) _ _))
      clear hK K
      refine wpAnyH_take (i := 9) (oi := ?o25) (v := ?v25) ?hi25 (by kernel_rfl) (by kernel_rfl) (by kernel_rfl) ?hQ25 (Or.inl ⟨?hw25, ?hy25⟩) (by assumption) ?_
      case hi25 => (simp only [List.getElem?_toArray, List.getElem?_cons_succ, List.getElem?_cons_zero]; rfl)
      case hQ25 => exact fun _ _ _ h => h
      case hw25 => rfl
      case hy25 => (intro w hSw; (try dsimp only at hSw); go_simp; (try with_reducible rfl))
      simp only [Act.put, List.setIfInBounds_toArray, List.set_cons_zero, List.set_cons_succ]
      refine wpAnyH_take (i := 10) (oi := ?o26) (v := ?v26) ?hi26 (by kernel_rfl) (by kernel_rfl) (by kernel_rfl) ?hQ26 (Or.inl ⟨?hw26, ?hy26⟩) (by assumption) ?_
      case hi26 => (simp only [List.getElem?_toArray, List.getElem?_cons_succ, List.getElem?_cons_zero]; rfl)
      case hQ26 => exact fun _ _ _ h => h
      case hw26 => rfl
      case hy26 => (intro w hSw; (try dsimp only at hSw); go_simp; (try with_reducible rfl))
      simp only [Act.put, List.setIfInBounds_toArray, List.set_cons_zero, List.set_cons_succ]
      refine wpAnyH_take (i := 11) (oi := ?o27) (v := ?v27) ?hi27 (by kernel_rfl) (by kernel_rfl) (by kernel_rfl) ?hQ27 (Or.inl ⟨?hw27, ?hy27⟩) (by assumption) ?_
      case hi27 => (simp only [List.getElem?_toArray, List.getElem?_cons_succ, List.getElem?_cons_zero]; rfl)
      case hQ27 => exact fun _ _ _ h => h
      case hw27 => rfl
      case hy27 => (intro w hSw; (try dsimp only at hSw); go_simp; (try with_reducible rfl))
      simp only [Act.put, List.setIfInBounds_toArray, List.set_cons_zero, List.set_cons_succ]
      refine wpAnyH_ready (rs := [13]) (by kernel_rfl) (by simp) ?_
      refine AllReadyH.cons (o := ?o28) ?hi28 (fun K hK => ?_) AllReadyH.nil
      case hi28 => (simp only [List.getElem?_toArray, List.getElem?_cons_succ, List.getElem?_cons_zero]; rfl)
      go_simp
      skip
      refine hK.out _ _ ?_ (fun hHeld => ?_)
      · (first | (with_reducible assumption) | (with_reducible exact Below.alloc (by assumption) (Below.size (by assumption)) _) | (with_reducible exact below_set2 (by assumption) (Below.size (by assumption)) _ _))
      clear hK K
      refine wpAnyH_take (i := 14) (oi := ?o29) (v := ?v29) ?hi29 (by kernel_rfl) (by kernel_rfl) (by kernel_rfl) ?hQ29 (Or.inl ⟨?hw29, ?hy29⟩) (by assumption) ?_
      case hi29 => (simp only [List.getElem?_toArray, List.getElem?_cons_succ, List.getElem?_cons_zero]; rfl)
      case hQ29 => exact fun _ _ _ h => h
      case hw29 => rfl
      case hy29 => (intro w hSw; (try dsimp only at hSw); go_simp; (try with_reducible rfl))
      simp only [Act.put, List.setIfInBounds_toArray, List.set_cons_zero, List.set_cons_succ]
      refine wpAnyH_done (by kernel_rfl) ?_ _
      go_wp2_with fail; go_meet; refine ⟨_, rfl, rfl, ?_⟩; (with_reducible assumption)
  case rest =>
    obtain ⟨B, rfl, rfl, hbx⟩ := hcut
    go_wp2_with fail
    go_ret
    exact ⟨rfl, (unhide H1).1.trans (hbx.mono (by have := (unhide H1).2; omega))⟩
end
end Go.Proofs.YtjjdkkdnlnbedaaGreat


namespace Go.Proofs.YtjjdkkdnlnbedaaGreat
open Go.RowKit Kt Qu
set_option linter.unusedVariables false

section
variable {w : World} {a : Qa} {n : Nat} {L : List QI}
theorem Qa.Ap.tgq {a : Qa} (h : a.Ap) : ¬ a.tg a.q := fun e => by rcases e with e | e; exact h.qt e; exact h.qg e
theorem Qa.Ap.tgh {a : Qa} (h : a.Ap) : ¬ a.tg a.mh := fun e => by rcases e with e | e; exact h.th e.symm; exact h.gh e.symm
theorem Qa.Ap.tgm {a : Qa} (h : a.Ap) : ¬ a.tg a.mt := fun e => by rcases e with e | e; exact h.tm e.symm; exact h.gm e.symm
theorem Qa.tg_foot {a : Qa} {k : Nat} (h : a.tg k) : a.foot k := by rcases h with h | h; exact .inr (.inl h); exact .inr (.inr (.inl h))
theorem tre_set2 {w : World} {T G P : Nat} {tf : Nat → Int} {L : List It} (h : Tre w T G P tf L) {b : Nat} (hb : b ≠ T ∧ b ≠ G) (u v : Value) : Tre ((w.setCell ⟨b, 0, none⟩ u).setCell ⟨b, 1, none⟩ v) T G P tf L := (h.set hb.1 hb.2 0 u).set hb.1 hb.2 1 v
theorem blk_put2 {w : World} {g : Nat} {t : TypeId} {x y : Value} (h : Blk w g t #[x, y]) (u v : Value) : Blk ((w.setCell ⟨g, 0, none⟩ u).setCell ⟨g, 1, none⟩ v) g t #[u, v] := (h.put 0 u).put 1 v
theorem not_tg {W : World} (hf : ∀ k, a.tg k → k < W.heap.size) {b : Nat} (hb : W.heap.size ≤ b) : ¬ a.tg b := fun h => by have := hf b h; omega
set_option maxRecDepth 100000 in
set_option maxHeartbeats 1000000 in
theorem qadd_ok (h : Que w a n L) (hn : n < 1000000) (t : Tmr) (hs : ¬ t.hard < t.soft) (hok : okT t) (hin : t.id ∉ L.map (·.tm.id)) (hl : L.length < 64) :
    Calls Tryz.prog 93 #[.pointer (some ⟨a.q, 0, none⟩), tv t] w fun e w' => e = .returned (.int .i64 0) ∧ (∃ L', Que w' a (n + 1) L' ∧ L'.map (·.tm) = insT t (L.map (·.tm))) ∧ Ft a.foot w w' := by
  have CTP := hide (fun w2 (h2 : Que w2 a n L) => qtree_put h2 hl hn t)
  obtain ⟨id, cl, so, ha, la⟩ := t
  simp only at hs hin CTP
  obtain ⟨hid, -, -, -⟩ := (show okT ⟨id, cl, so, ha, la⟩ from hok)
  simp only at hid
  obtain ⟨B0, hB0⟩ : ∃ b, w.heap.size = b := ⟨_, rfl⟩
  obtain ⟨W0, hW0⟩ : ∃ W0, W0 = w.alloc (.cells #[.int .i64 id, .int .i64 cl, .int .i64 so, .int .i64 ha, .bool la] 35) := ⟨_, rfl⟩
  have b0 : Below w.heap.size w W0 := by rw [hW0]; exact one_below _ _
  have k0 : Blk W0 B0 35 #[.int .i64 id, .int .i64 cl, .int .i64 so, .int .i64 ha, .bool la] := by rw [hW0]; exact Blk.new_at _ _ _ hB0.symm
  have h0 := h.below b0
  have hB0f : ¬ a.foot B0 := fun hk => by have := h.lts _ hk; omega
  have HW := hide hW0
  have CH := hide (qhas_out h0 id hid hin)
  have H0 := hide (And.intro h0 (And.intro k0 b0))
  have x0 := k0.cell 0
  have x2 := k0.cell 2
  have x3 := k0.cell 3
  simp only [List.getElem?_toArray, List.getElem?_cons_zero, List.getElem?_cons_succ] at x0 x2 x3
  rw [hW0] at x0 x2 x3
  obtain ⟨C, hC⟩ : ∃ C, clampZ so = C := ⟨_, rfl⟩
  have CK := fun w' => hide (kclamp_any so w')
  rw [hC] at CK CTP
  have HIN := hide (And.intro hin (And.intro hok hid))
  clear h h0 k0 b0 hid hin hok hW0 hl hC
  unfold tv
  simp only
  go_enter Tryz.func93, Tryz.ntmps93
  go_wp2_with (go_at_call 107; refine Hid.out ?_)
  refine hide ?_
  rw [← unhide HW]
  refine (unhide CH).mono ?_
  rintro e w1 ⟨rfl, hb1⟩
  obtain ⟨h0, k0, b0⟩ := unhide H0
  have h1 := h0.below hb1
  have k1 := k0.below hb1 k0.lt
  have c0 := h1.c0
  have d0 := k1.cell 0
  have d2 := k1.cell 2
  simp only [List.getElem?_toArray, List.getElem?_cons_zero, List.getElem?_cons_succ] at d0 d2
  have hFl : ∀ k, a.tg k → k < w1.heap.size := fun k hk => h1.lts k (Qa.tg_foot hk)
  have CT := hide (fun w2 (hb : Below w1.heap.size w1 w2) => (unhide CTP) w2 (h1.below hb))
  have H1 := hide (And.intro h1 (And.intro k1 (And.intro (b0.trans (hb1.mono b0.size)) (And.intro hb1.size b0.size))))
  have hB0l := k1.lt
  have K0 := fun w2 (hb : Ft a.tg w1 w2) => (hb.cell c0 h1.ap.tgq)
  have K2 := fun w2 (hb : Ft a.tg w1 w2) => (hb.cell d2 (fun e => hB0f (Qa.tg_foot e)))
  have hdr : Ft a.tg w1 w1.drew := (Ft.refl _ _).drew
  have hdb : Below w1.heap.size w1 w1.drew := below_drew (Below.refl _ _)
  have HF := hide hFl
  have HTG := hide (fun b (hb : w1.heap.size ≤ b) => And.intro (show b ≠ a.t from fun e => by have := hFl a.t (.inl rfl); omega) (show b ≠ a.g from fun e => by have := hFl a.g (.inr rfl); omega))
  have HB0 := hide hB0f
  clear h0 k0 b0 h1 k1 hb1 x0 x2 x3 HW CH H0 CTP hFl hB0f hB0l
  go_wp2_with fail
  go_cut [5, 6] (fun s5 s6 wx => ∃ (B : Nat) (x : QI) (X Y : List QI) (tf : Nat → Int), s5 = .pointer (some ⟨B, 0, none⟩) ∧ s6 = .int .i64 0 ∧ Hid (x.tm = ⟨id, cl, so, ha, la⟩ ∧ L = X ++ Y ∧
      x.n ≤ 64 ∧ 0 ≤ x.tu ∧ x.tu ≤ ((n + 1 : Nat) : Int) ∧ (∀ y ∈ L, y.n ≠ x.n) ∧ (X ++ x :: Y).map (·.tm) = insT ⟨id, cl, so, ha, la⟩ (L.map (·.tm))) ∧ Tre wx a.t a.g 64 tf ((X ++ x :: Y).map QI.it) ∧ (∀ y, 0 ≤ tf y ∧ tf y ≤ ((n + 1 : Nat) : Int)) ∧ Ft a.tg w1 wx ∧ Blk wx B 123 #[.int .i64 x.n, .int .i64 x.tu] ∧ w1.heap.size ≤ B)
  case first =>
    refine wp_region_held_drew (S := (fun w' => Ft a.tg w1 w')) (by kernel_rfl) ?_ (fun hHeld => ?_)
    · (first | (with_reducible assumption) | (with_reducible exact Ft.alloc (by assumption) _) | (with_reducible exact ft_set2 (by assumption) (Ft.size (by assumption)) _ _))
    generalize World.drew _ = wd at *
    refine wpAnyH_take (i := 0) (oi := ?o30) (v := ?v30) ?hi30 (by kernel_rfl) (by kernel_rfl) (by kernel_rfl) ?hQ30 (Or.inl ⟨?hw30, ?hy30⟩) (by assumption) ?_
    case hi30 => (simp only [List.getElem?_toArray, List.getElem?_cons_zero]; rfl)
    case hQ30 => exact fun _ _ _ h => h
    case hw30 => rfl
    case hy30 => (intro w hSw; (try dsimp only at hSw); go_simp; (try with_reducible rfl))
    simp only [Act.put, List.setIfInBounds_toArray, List.set_cons_zero, List.set_cons_succ]
    refine wpAnyH_take (i := 1) (oi := ?o31) (v := ?v31) ?hi31 (by kernel_rfl) (by kernel_rfl) (by kernel_rfl) ?hQ31 (Or.inl ⟨?hw31, ?hy31⟩) (by assumption) ?_
    case hi31 => (simp only [List.getElem?_toArray, List.getElem?_cons_succ, List.getElem?_cons_zero]; rfl)
    case hQ31 => exact fun _ _ _ h => h
    case hw31 => rfl
    case hy31 => (intro w hSw; (try dsimp only at hSw); go_simp; (try with_reducible rfl))
    simp only [Act.put, List.setIfInBounds_toArray, List.set_cons_zero, List.set_cons_succ]
    refine wpAnyH_take (i := 2) (oi := ?o32) (v := ?v32) ?hi32 (by kernel_rfl) (by kernel_rfl) (by kernel_rfl) ?hQ32 (Or.inl ⟨?hw32, ?hy32⟩) (by assumption) ?_
    case hi32 => (simp only [List.getElem?_toArray, List.getElem?_cons_succ, List.getElem?_cons_zero]; rfl)
    case hQ32 => exact fun _ _ _ h => h
    case hw32 => rfl
    case hy32 => (intro w hSw; (try dsimp only at hSw); go_simp; (try with_reducible rfl))
    simp only [Act.put, List.setIfInBounds_toArray, List.set_cons_zero, List.set_cons_succ]
    refine wpAnyH_take (i := 3) (oi := ?o33) (v := ?v33) ?hi33 (by kernel_rfl) (by kernel_rfl) (by kernel_rfl) ?hQ33 (Or.inl ⟨?hw33, ?hy33⟩) (by assumption) ?_
    case hi33 => (simp only [List.getElem?_toArray, List.getElem?_cons_succ, List.getElem?_cons_zero]; rfl)
    case hQ33 => exact fun _ _ _ h => h
    case hw33 => rfl
    case hy33 => (intro w hSw; (try dsimp only at hSw); go_simp; (try with_reducible rfl))
    simp only [Act.put, List.setIfInBounds_toArray, List.set_cons_zero, List.set_cons_succ]
    refine wpAnyH_take (i := 4) (oi := ?o34) (v := ?v34) ?hi34 (by kernel_rfl) (by kernel_rfl) (by kernel_rfl) ?hQ34 (Or.inl ⟨?hw34, ?hy34⟩) (by assumption) ?_
    case hi34 => (simp only [List.getElem?_toArray, List.getElem?_cons_succ, List.getElem?_cons_zero]; rfl)
    case hQ34 => exact fun _ _ _ h => h
    case hw34 => rfl
    case hy34 => (intro w hSw; (try dsimp only at hSw); go_simp; (try with_reducible rfl))
    simp only [Act.put, List.setIfInBounds_toArray, List.set_cons_zero, List.set_cons_succ]
    refine wpAnyH_take (i := 5) (oi := ?o35) (v := ?v35) ?hi35 (by kernel_rfl) (by kernel_rfl) (by kernel_rfl) ?hQ35 (Or.inl ⟨?hw35, ?hy35⟩) (by assumption) ?_
    case hi35 => (simp only [List.getElem?_toArray, List.getElem?_cons_succ, List.getElem?_cons_zero]; rfl)
    case hQ35 => exact fun _ _ _ h => h
    case hw35 => rfl
    case hy35 => (intro w hSw; (try dsimp only at hSw); go_simp; (try with_reducible rfl))
    simp only [Act.put, List.setIfInBounds_toArray, List.set_cons_zero, List.set_cons_succ]
    refine wpAnyH_ready (rs := [6, 12]) (by kernel_rfl) (by simp) ?_
    refine AllReadyH.cons (o := ?o36) ?hi36 (fun K hK => ?_) (AllReadyH.cons (o := ?p36) ?hj36 (fun K hK => ?_) AllReadyH.nil)
    case hi36 => (simp only [List.getElem?_toArray, List.getElem?_cons_succ, List.getElem?_cons_zero]; rfl)
    case hj36 => (simp only [List.getElem?_toArray, List.getElem?_cons_succ, List.getElem?_cons_zero]; rfl)
    · go_simp
      (first | (go_at_call 98; refine (unhide (CK _)).mono ?_; rintro e wk ⟨rfl, rfl⟩) | (go_at_call 114; refine (unhide CT _ (by first | assumption | exact Below.alloc (by assumption) (Below.size (by assumption)) _)).mono ?_; rintro e wp ⟨x, X, Y, y1, rfl, y2, y3, y4, y5, y6, y7, ⟨tf, y8, y9⟩, hbp⟩; have hbq := Ft.trans (by assumption) hbp; (try (have kq := box_ft hbp (unhide HF) (Ft.size (by assumption)); have q0 := kq.cell 0; have q1 := kq.cell 1; have q2 := kq.free; simp only [List.getElem?_toArray, List.getElem?_cons_zero, List.getElem?_cons_succ] at q0 q1)); have HY := hide (And.intro y1 (And.intro y2 (And.intro y3 (And.intro y4 (And.intro y5 (And.intro y6 y7)))))); clear hbp y1 y2 y3 y4 y5 y6 y7))
      refine hK.out _ _ ?_ (fun hHeld => ?_)
      · (first | (with_reducible assumption) | (with_reducible exact Ft.alloc (by assumption) _) | (with_reducible exact ft_set2 (by assumption) (Ft.size (by assumption)) _ _))
      clear hK K
      refine wpAnyH_take (i := 7) (oi := ?o37) (v := ?v37) ?hi37 (by kernel_rfl) (by kernel_rfl) (by kernel_rfl) ?hQ37 (Or.inl ⟨?hw37, ?hy37⟩) (by assumption) ?_
      case hi37 => (simp only [List.getElem?_toArray, List.getElem?_cons_succ, List.getElem?_cons_zero]; rfl)
      case hQ37 => exact fun _ _ _ h => h
      case hw37 => rfl
      case hy37 => (intro w hSw; (try dsimp only at hSw); go_simp; (try with_reducible rfl))
      simp only [Act.put, List.setIfInBounds_toArray, List.set_cons_zero, List.set_cons_succ]
      refine wpAnyH_ready (rs := [8, 12]) (by kernel_rfl) (by simp) ?_
      refine AllReadyH.cons (o := ?o38) ?hi38 (fun K hK => ?_) (AllReadyH.cons (o := ?p38) ?hj38 (fun K hK => ?_) AllReadyH.nil)
      case hi38 => (simp only [List.getElem?_toArray, List.getElem?_cons_succ, List.getElem?_cons_zero]; rfl)
      case hj38 => (simp only [List.getElem?_toArray, List.getElem?_cons_succ, List.getElem?_cons_zero]; rfl)
      · go_simp
        (first | (go_at_call 98; refine (unhide (CK _)).mono ?_; rintro e wk ⟨rfl, rfl⟩) | (go_at_call 114; refine (unhide CT _ (by first | assumption | exact Below.alloc (by assumption) (Below.size (by assumption)) _)).mono ?_; rintro e wp ⟨x, X, Y, y1, rfl, y2, y3, y4, y5, y6, y7, ⟨tf, y8, y9⟩, hbp⟩; have hbq := Ft.trans (by assumption) hbp; (try (have kq := box_ft hbp (unhide HF) (Ft.size (by assumption)); have q0 := kq.cell 0; have q1 := kq.cell 1; have q2 := kq.free; simp only [List.getElem?_toArray, List.getElem?_cons_zero, List.getElem?_cons_succ] at q0 q1)); have HY := hide (And.intro y1 (And.intro y2 (And.intro y3 (And.intro y4 (And.intro y5 (And.intro y6 y7)))))); clear hbp y1 y2 y3 y4 y5 y6 y7))
        refine hK.out _ _ ?_ (fun hHeld => ?_)
        · (first | (with_reducible assumption) | (with_reducible exact Ft.alloc (by assumption) _) | (with_reducible exact ft_set2 (by assumption) (Ft.size (by assumption)) _ _))
        clear hK K
        refine wpAnyH_take (i := 9) (oi := ?o39) (v := ?v39) ?hi39 (by kernel_rfl) (by kernel_rfl) (by kernel_rfl) ?hQ39 (Or.inl ⟨?hw39, ?hy39⟩) (by assumption) ?_
        case hi39 => (simp only [List.getElem?_toArray, List.getElem?_cons_succ, List.getElem?_cons_zero]; rfl)
        case hQ39 => exact fun _ _ _ h => h
        case hw39 => rfl
        case hy39 => (intro w hSw; (try dsimp only at hSw); go_simp; (try with_reducible rfl))
        simp only [Act.put, List.setIfInBounds_toArray, List.set_cons_zero, List.set_cons_succ]
        refine wpAnyH_take (i := 10) (oi := ?o40) (v := ?v40) ?hi40 (by kernel_rfl) (by kernel_rfl) (by kernel_rfl) ?hQ40 (Or.inl ⟨?hw40, ?hy40⟩) (by assumption) ?_
        case hi40 => (simp only [List.getElem?_toArray, List.getElem?_cons_succ, List.getElem?_cons_zero]; rfl)
        case hQ40 => exact fun _ _ _ h => h
        case hw40 => rfl
        case hy40 => (intro w hSw; (try dsimp only at hSw); go_simp; (try with_reducible rfl))
        simp only [Act.put, List.setIfInBounds_toArray, List.set_cons_zero, List.set_cons_succ]
        refine wpAnyH_take (i := 11) (oi := ?o41) (v := ?v41) ?hi41 (by kernel_rfl) (by kernel_rfl) (by kernel_rfl) ?hQ41 (Or.inl ⟨?hw41, ?hy41⟩) (by assumption) ?_
        case hi41 => (simp only [List.getElem?_toArray, List.getElem?_cons_succ, List.getElem?_cons_zero]; rfl)
        case hQ41 => exact fun _ _ _ h => h
        case hw41 => rfl
        case hy41 => (intro w hSw; (try dsimp only at hSw); go_simp; (try with_reducible rfl))
        simp only [Act.put, List.setIfInBounds_toArray, List.set_cons_zero, List.set_cons_succ]
        refine wpAnyH_ready (rs := [12]) (by kernel_rfl) (by simp) ?_
        refine AllReadyH.cons (o := ?o42) ?hi42 (fun K hK => ?_) AllReadyH.nil
        case hi42 => (simp only [List.getElem?_toArray, List.getElem?_cons_succ, List.getElem?_cons_zero]; rfl)
        go_simp
        skip
        refine hK.out _ _ ?_ (fun hHeld => ?_)
        · (first | (with_reducible assumption) | (with_reducible exact Ft.alloc (by assumption) _) | (with_reducible exact ft_set2 (by assumption) (Ft.size (by assumption)) _ _))
        clear hK K
        refine wpAnyH_ready (rs := [13]) (by kernel_rfl) (by simp) ?_
        refine AllReadyH.cons (o := ?o43) ?hi43 (fun K hK => ?_) AllReadyH.nil
        case hi43 => (simp only [List.getElem?_toArray, List.getElem?_cons_succ, List.getElem?_cons_zero]; rfl)
        go_simp
        skip
        refine hK.out _ _ ?_ (fun hHeld => ?_)
        · (first | (with_reducible assumption) | (with_reducible exact Ft.alloc (by assumption) _) | (with_reducible exact ft_set2 (by assumption) (Ft.size (by assumption)) _ _))
        clear hK K
        refine wpAnyH_take (i := 14) (oi := ?o44) (v := ?v44) ?hi44 (by kernel_rfl) (by kernel_rfl) (by kernel_rfl) ?hQ44 (Or.inl ⟨?hw44, ?hy44⟩) (by assumption) ?_
        case hi44 => (simp only [List.getElem?_toArray, List.getElem?_cons_succ, List.getElem?_cons_zero]; rfl)
        case hQ44 => exact fun _ _ _ h => h
        case hw44 => rfl
        case hy44 => (intro w hSw; (try dsimp only at hSw); go_simp; (try with_reducible rfl))
        simp only [Act.put, List.setIfInBounds_toArray, List.set_cons_zero, List.set_cons_succ]
        refine wpAnyH_done (by kernel_rfl) ?_ _
        go_wp2_with fail; go_meet; refine ⟨_, x, X, Y, tf, rfl, rfl, HY, ?_, y9, ?_, ?_, ?_⟩; (first | (with_reducible exact y8.below (one_below _ _)) | (with_reducible exact tre_set2 y8 (unhide HTG _ (Ft.size (by assumption))) _ _)); (with_reducible assumption); (first | (with_reducible exact Blk.new _ _ _) | (with_reducible exact blk_put2 kq _ _)); (with_reducible exact Ft.size (by assumption))
      · go_simp
        refine hK.out _ _ ?_ (fun hHeld => ?_)
        · (first | (with_reducible assumption) | (with_reducible exact Ft.alloc (by assumption) _) | (with_reducible exact ft_set2 (by assumption) (Ft.size (by assumption)) _ _))
        clear hK K
        refine wpAnyH_ready (rs := [8]) (by kernel_rfl) (by simp) ?_
        refine AllReadyH.cons (o := ?o45) ?hi45 (fun K hK => ?_) AllReadyH.nil
        case hi45 => (simp only [List.getElem?_toArray, List.getElem?_cons_succ, List.getElem?_cons_zero]; rfl)
        go_simp
        (first | (go_at_call 98; refine (unhide (CK _)).mono ?_; rintro e wk ⟨rfl, rfl⟩) | (go_at_call 114; refine (unhide CT _ (by first | assumption | exact Below.alloc (by assumption) (Below.size (by assumption)) _)).mono ?_; rintro e wp ⟨x, X, Y, y1, rfl, y2, y3, y4, y5, y6, y7, ⟨tf, y8, y9⟩, hbp⟩; have hbq := Ft.trans (by assumption) hbp; (try (have kq := box_ft hbp (unhide HF) (Ft.size (by assumption)); have q0 := kq.cell 0; have q1 := kq.cell 1; have q2 := kq.free; simp only [List.getElem?_toArray, List.getElem?_cons_zero, List.getElem?_cons_succ] at q0 q1)); have HY := hide (And.intro y1 (And.intro y2 (And.intro y3 (And.intro y4 (And.intro y5 (And.intro y6 y7)))))); clear hbp y1 y2 y3 y4 y5 y6 y7))
        refine hK.out _ _ ?_ (fun hHeld => ?_)
        · (first | (with_reducible assumption) | (with_reducible exact Ft.alloc (by assumption) _) | (with_reducible exact ft_set2 (by assumption) (Ft.size (by assumption)) _ _))
        clear hK K
        refine wpAnyH_take (i := 9) (oi := ?o46) (v := ?v46) ?hi46 (by kernel_rfl) (by kernel_rfl) (by kernel_rfl) ?hQ46 (Or.inl ⟨?hw46, ?hy46⟩) (by assumption) ?_
        case hi46 => (simp only [List.getElem?_toArray, List.getElem?_cons_succ, List.getElem?_cons_zero]; rfl)
        case hQ46 => exact fun _ _ _ h => h
        case hw46 => rfl
        case hy46 => (intro w hSw; (try dsimp only at hSw); go_simp; (try with_reducible rfl))
        simp only [Act.put, List.setIfInBounds_toArray, List.set_cons_zero, List.set_cons_succ]
        refine wpAnyH_take (i := 10) (oi := ?o47) (v := ?v47) ?hi47 (by kernel_rfl) (by kernel_rfl) (by kernel_rfl) ?hQ47 (Or.inl ⟨?hw47, ?hy47⟩) (by assumption) ?_
        case hi47 => (simp only [List.getElem?_toArray, List.getElem?_cons_succ, List.getElem?_cons_zero]; rfl)
        case hQ47 => exact fun _ _ _ h => h
        case hw47 => rfl
        case hy47 => (intro w hSw; (try dsimp only at hSw); go_simp; (try with_reducible rfl))
        simp only [Act.put, List.setIfInBounds_toArray, List.set_cons_zero, List.set_cons_succ]
        refine wpAnyH_take (i := 11) (oi := ?o48) (v := ?v48) ?hi48 (by kernel_rfl) (by kernel_rfl) (by kernel_rfl) ?hQ48 (Or.inl ⟨?hw48, ?hy48⟩) (by assumption) ?_
        case hi48 => (simp only [List.getElem?_toArray, List.getElem?_cons_succ, List.getElem?_cons_zero]; rfl)
        case hQ48 => exact fun _ _ _ h => h
        case hw48 => rfl
        case hy48 => (intro w hSw; (try dsimp only at hSw); go_simp; (try with_reducible rfl))
        simp only [Act.put, List.setIfInBounds_toArray, List.set_cons_zero, List.set_cons_succ]
        refine wpAnyH_ready (rs := [13]) (by kernel_rfl) (by simp) ?_
        refine AllReadyH.cons (o := ?o49) ?hi49 (fun K hK => ?_) AllReadyH.nil
        case hi49 => (simp only [List.getElem?_toArray, List.getElem?_cons_succ, List.getElem?_cons_zero]; rfl)
        go_simp
        skip
        refine hK.out _ _ ?_ (fun hHeld => ?_)
        · (first | (with_reducible assumption) | (with_reducible exact Ft.alloc (by assumption) _) | (with_reducible exact ft_set2 (by assumption) (Ft.size (by assumption)) _ _))
        clear hK K
        refine wpAnyH_take (i := 14) (oi := ?o50) (v := ?v50) ?hi50 (by kernel_rfl) (by kernel_rfl) (by kernel_rfl) ?hQ50 (Or.inl ⟨?hw50, ?hy50⟩) (by assumption) ?_
        case hi50 => (simp only [List.getElem?_toArray, List.getElem?_cons_succ, List.getElem?_cons_zero]; rfl)
        case hQ50 => exact fun _ _ _ h => h
        case hw50 => rfl
        case hy50 => (intro w hSw; (try dsimp only at hSw); go_simp; (try with_reducible rfl))
        simp only [Act.put, List.setIfInBounds_toArray, List.set_cons_zero, List.set_cons_succ]
        refine wpAnyH_done (by kernel_rfl) ?_ _
        go_wp2_with fail; go_meet; refine ⟨_, x, X, Y, tf, rfl, rfl, HY, ?_, y9, ?_, ?_, ?_⟩; (first | (with_reducible exact y8.below (one_below _ _)) | (with_reducible exact tre_set2 y8 (unhide HTG _ (Ft.size (by assumption))) _ _)); (with_reducible assumption); (first | (with_reducible exact Blk.new _ _ _) | (with_reducible exact blk_put2 kq _ _)); (with_reducible exact Ft.size (by assumption))
    · go_simp
      refine hK.out _ _ ?_ (fun hHeld => ?_)
      · (first | (with_reducible assumption) | (with_reducible exact Ft.alloc (by assumption) _) | (with_reducible exact ft_set2 (by assumption) (Ft.size (by assumption)) _ _))
      clear hK K
      refine wpAnyH_ready (rs := [6]) (by kernel_rfl) (by simp) ?_
      refine AllReadyH.cons (o := ?o51) ?hi51 (fun K hK => ?_) AllReadyH.nil
      case hi51 => (simp only [List.getElem?_toArray, List.getElem?_cons_succ, List.getElem?_cons_zero]; rfl)
      go_simp
      (first | (go_at_call 98; refine (unhide (CK _)).mono ?_; rintro e wk ⟨rfl, rfl⟩) | (go_at_call 114; refine (unhide CT _ (by first | assumption | exact Below.alloc (by assumption) (Below.size (by assumption)) _)).mono ?_; rintro e wp ⟨x, X, Y, y1, rfl, y2, y3, y4, y5, y6, y7, ⟨tf, y8, y9⟩, hbp⟩; have hbq := Ft.trans (by assumption) hbp; (try (have kq := box_ft hbp (unhide HF) (Ft.size (by assumption)); have q0 := kq.cell 0; have q1 := kq.cell 1; have q2 := kq.free; simp only [List.getElem?_toArray, List.getElem?_cons_zero, List.getElem?_cons_succ] at q0 q1)); have HY := hide (And.intro y1 (And.intro y2 (And.intro y3 (And.intro y4 (And.intro y5 (And.intro y6 y7)))))); clear hbp y1 y2 y3 y4 y5 y6 y7))
      refine hK.out _ _ ?_ (fun hHeld => ?_)
      · (first | (with_reducible assumption) | (with_reducible exact Ft.alloc (by assumption) _) | (with_reducible exact ft_set2 (by assumption) (Ft.size (by assumption)) _ _))
      clear hK K
      refine wpAnyH_take (i := 7) (oi := ?o52) (v := ?v52) ?hi52 (by kernel_rfl) (by kernel_rfl) (by kernel_rfl) ?hQ52 (Or.inl ⟨?hw52, ?hy52⟩) (by assumption) ?_
      case hi52 => (simp only [List.getElem?_toArray, List.getElem?_cons_succ, List.getElem?_cons_zero]; rfl)
      case hQ52 => exact fun _ _ _ h => h
      case hw52 => rfl
      case hy52 => (intro w hSw; (try dsimp only at hSw); go_simp; (try with_reducible rfl))
      simp only [Act.put, List.setIfInBounds_toArray, List.set_cons_zero, List.set_cons_succ]
      refine wpAnyH_ready (rs := [8]) (by kernel_rfl) (by simp) ?_
      refine AllReadyH.cons (o := ?o53) ?hi53 (fun K hK => ?_) AllReadyH.nil
      case hi53 => (simp only [List.getElem?_toArray, List.getElem?_cons_succ, List.getElem?_cons_zero]; rfl)
      go_simp
      (first | (go_at_call 98; refine (unhide (CK _)).mono ?_; rintro e wk ⟨rfl, rfl⟩) | (go_at_call 114; refine (unhide CT _ (by first | assumption | exact Below.alloc (by assumption) (Below.size (by assumption)) _)).mono ?_; rintro e wp ⟨x, X, Y, y1, rfl, y2, y3, y4, y5, y6, y7, ⟨tf, y8, y9⟩, hbp⟩; have hbq := Ft.trans (by assumption) hbp; (try (have kq := box_ft hbp (unhide HF) (Ft.size (by assumption)); have q0 := kq.cell 0; have q1 := kq.cell 1; have q2 := kq.free; simp only [List.getElem?_toArray, List.getElem?_cons_zero, List.getElem?_cons_succ] at q0 q1)); have HY := hide (And.intro y1 (And.intro y2 (And.intro y3 (And.intro y4 (And.intro y5 (And.intro y6 y7)))))); clear hbp y1 y2 y3 y4 y5 y6 y7))
      refine hK.out _ _ ?_ (fun hHeld => ?_)
      · (first | (with_reducible assumption) | (with_reducible exact Ft.alloc (by assumption) _) | (with_reducible exact ft_set2 (by assumption) (Ft.size (by assumption)) _ _))
      clear hK K
      refine wpAnyH_take (i := 9) (oi := ?o54) (v := ?v54) ?hi54 (by kernel_rfl) (by kernel_rfl) (by kernel_rfl) ?hQ54 (Or.inl ⟨?hw54, ?hy54⟩) (by assumption) ?_
      case hi54 => (simp only [List.getElem?_toArray, List.getElem?_cons_succ, List.getElem?_cons_zero]; rfl)
      case hQ54 => exact fun _ _ _ h => h
      case hw54 => rfl
      case hy54 => (intro w hSw; (try dsimp only at hSw); go_simp; (try with_reducible rfl))
      simp only [Act.put, List.setIfInBounds_toArray, List.set_cons_zero, List.set_cons_succ]
      refine wpAnyH_take (i := 10) (oi := ?o55) (v := ?v55) ?hi55 (by kernel_rfl) (by kernel_rfl) (by kernel_rfl) ?hQ55 (Or.inl ⟨?hw55, ?hy55⟩) (by assumption) ?_
      case hi55 => (simp only [List.getElem?_toArray, List.getElem?_cons_succ, List.getElem?_cons_zero]; rfl)
      case hQ55 => exact fun _ _ _ h => h
      case hw55 => rfl
      case hy55 => (intro w hSw; (try dsimp only at hSw); go_simp; (try with_reducible rfl))
      simp only [Act.put, List.setIfInBounds_toArray, List.set_cons_zero, List.set_cons_succ]
      refine wpAnyH_take (i := 11) (oi := ?o56) (v := ?v56) ?hi56 (by kernel_rfl) (by kernel_rfl) (by kernel_rfl) ?hQ56 (Or.inl ⟨?hw56, ?hy56⟩) (by assumption) ?_
      case hi56 => (simp only [List.getElem?_toArray, List.getElem?_cons_succ, List.getElem?_cons_zero]; rfl)
      case hQ56 => exact fun _ _ _ h => h
      case hw56 => rfl
      case hy56 => (intro w hSw; (try dsimp only at hSw); go_simp; (try with_reducible rfl))
      simp only [Act.put, List.setIfInBounds_toArray, List.set_cons_zero, List.set_cons_succ]
      refine wpAnyH_ready (rs := [13]) (by kernel_rfl) (by simp) ?_
      refine AllReadyH.cons (o := ?o57) ?hi57 (fun K hK => ?_) AllReadyH.nil
      case hi57 => (simp only [List.getElem?_toArray, List.getElem?_cons_succ, List.getElem?_cons_zero]; rfl)
      go_simp
      skip
      refine hK.out _ _ ?_ (fun hHeld => ?_)
      · (first | (with_reducible assumption) | (with_reducible exact Ft.alloc (by assumption) _) | (with_reducible exact ft_set2 (by assumption) (Ft.size (by assumption)) _ _))
      clear hK K
      refine wpAnyH_take (i := 14) (oi := ?o58) (v := ?v58) ?hi58 (by kernel_rfl) (by kernel_rfl) (by kernel_rfl) ?hQ58 (Or.inl ⟨?hw58, ?hy58⟩) (by assumption) ?_
      case hi58 => (simp only [List.getElem?_toArray, List.getElem?_cons_succ, List.getElem?_cons_zero]; rfl)
      case hQ58 => exact fun _ _ _ h => h
      case hw58 => rfl
      case hy58 => (intro w hSw; (try dsimp only at hSw); go_simp; (try with_reducible rfl))
      simp only [Act.put, List.setIfInBounds_toArray, List.set_cons_zero, List.set_cons_succ]
      refine wpAnyH_done (by kernel_rfl) ?_ _
      go_wp2_with fail; go_meet; refine ⟨_, x, X, Y, tf, rfl, rfl, HY, ?_, y9, ?_, ?_, ?_⟩; (first | (with_reducible exact y8.below (one_below _ _)) | (with_reducible exact tre_set2 y8 (unhide HTG _ (Ft.size (by assumption))) _ _)); (with_reducible assumption); (first | (with_reducible exact Blk.new _ _ _) | (with_reducible exact blk_put2 kq _ _)); (with_reducible exact Ft.size (by assumption))
  case rest =>
    obtain ⟨B, x, X, Y, tf, rfl, rfl, HY, tr, htf, fx, kB, hB⟩ := hcut
    obtain ⟨h1, k1, bw1, s1, s2⟩ := unhide H1
    have hB0f := unhide HB0
    obtain ⟨hxt, hLXY, hx1, hx2, hx3, hx4, hx5⟩ := unhide HY
    obtain ⟨hin, hok, hid⟩ := unhide HIN
    have hBf : ¬ a.foot B := fun hk => by have := h1.lts _ hk; omega
    have hB0B : B0 ≠ B := by have := k1.lt; omega
    have hxI : isI (x.n : Int) ∧ isI x.tu := ⟨isI_of (by omega) (by omega), isI_of (by omega) (by omega)⟩
    have mh1 := (h1.mh.ft fx h1.ap.tgh)
    have mt1 := (h1.mt.ft fx h1.ap.tgm)
    have kq1 := h1.blk.ft fx h1.ap.tgq
    have k01 := k1.ft fx (fun e => hB0f (Qa.tg_foot e))
    have fd : Ft a.foot wc wc.drew := (Ft.refl _ _).drew
    obtain ⟨w2, e1, g1, r1⟩ := (mh1.below (below_drew (Below.refl wc.heap.size wc)) mh1.lt).upd keyedI Tryz.underlying126 (by omega) ik_inj id (keyI hid) (x.n, x.tu)
    have f2 : Ft a.foot wc w2 := fd.grown r1 (fun g e => by cases e; exact .inl (.inr (.inr (.inr (.inl rfl)))))
    have f2m : Ft (fun k => k = a.mh) wc w2 := (Ft.refl _ _).drew.grown r1 (fun g e => by cases e; exact .inl rfl)
    have kq2 := kq1.ft f2m h1.ap.qh
    have kB2 := kB.ft f2 hBf
    have k02 := k01.ft f2 hB0f
    have mt2 := mt1.ft f2m h1.ap.hm.symm
    obtain ⟨w3, e2, g2, r2⟩ := (mt2.below (below_drew (Below.refl w2.heap.size w2)) mt2.lt).upd keyedH Tryz.underlying127 (by omega) hk_inj (x.n, x.tu) (keyH hxI.1 hxI.2) ⟨id, cl, so, ha, la⟩
    have f3 : Ft a.foot w2 w3 := (Ft.refl _ _).drew.grown r2 (fun g e => by cases e; exact .inl (.inr (.inr (.inr (.inr rfl)))))
    have f3m : Ft (fun k => k = a.mt) w2 w3 := (Ft.refl _ _).drew.grown r2 (fun g e => by cases e; exact .inl rfl)
    have hfull : Que w3 a (n + 1) (X ++ x :: Y) := by
      have hnd : QNd (X ++ x :: Y) := QNd.put (hLXY ▸ h1.nd) (by rw [hxt, ← hLXY]; exact hin) (by rw [← hLXY]; intro hm; obtain ⟨y, hy, e⟩ := List.mem_map.1 hm; exact hx4 y hy e)
      have hlen : (X ++ x :: Y).length = L.length + 1 := by rw [hLXY]; simp only [List.length_append, List.length_cons]; omega
      refine ⟨kq2.ft f3m h1.ap.qm, ⟨tf, (tr.ft f2m h1.ap.th h1.ap.gh).ft f3m h1.ap.tm h1.ap.gm, htf⟩, ?_, ?_, hnd, ?_, h1.ap, by omega⟩
      · have := g1.ft f3m h1.ap.hm
        rw [hF_none hin] at this
        rw [← hF_cons_split hnd, ← hLXY, hlen, hxt]
        exact this
      · have e3 : tF L (x.n, x.tu) = none := tF_none (fun y hy hq => hx4 y hy hq.1)
        rw [e3] at g2
        rw [← tF_cons_split hnd, ← hLXY, hlen, hxt]
        exact g2
      · intro y hy
        have old : ∀ y ∈ L, okT y.tm ∧ y.n ≤ 64 ∧ 0 ≤ y.tu ∧ y.tu ≤ ((n + 1 : Nat) : Int) := fun y hy => by
          obtain ⟨o1, o2, o3, o4⟩ := h1.ok y hy
          exact ⟨o1, o2, o3, by omega⟩
        rw [hLXY] at old
        rcases List.mem_append.1 hy with hy | hy
        · exact old y (by simp [hy])
        · rcases List.mem_cons.1 hy with rfl | hy
          · exact ⟨by rw [hxt]; exact hok, hx1, hx2, hx3⟩
          · exact old y (by simp [hy])
    have hfin : Ft a.foot w w3 := (Ft.of_below _ bw1).trans (((fx.mono fun k hk => Qa.tg_foot hk).trans f2).trans f3)
    have HFIN := hide (And.intro hfull (And.intro hfin hx5))
    have c1 := kq1.cell 1
    have b0 := kB.cell 0
    have b1 := kB.cell 1
    have y0 := k01.cell 0
    have z2 := kq2.cell 2
    have zb0 := kB2.cell 0
    have zb1 := kB2.cell 1
    have z0 := k02.cell 0
    have z1 := k02.cell 1
    have z3 := k02.cell 2
    have z4 := k02.cell 3
    have z5 := k02.cell 4
    simp only [List.getElem?_toArray, List.getElem?_cons_zero, List.getElem?_cons_succ] at c1 b0 b1 y0 z2 zb0 zb1 z0 z1 z3 z4 z5
    simp only [ik, hk, tv] at e1 e2
    clear h1 k1 bw1 s1 s2 hxt hLXY hx1 hx2 hx3 hx4 hx5 hin hok hid hBf hB0B mh1 mt1 kq1 k01 fd g1 r1 f2 f2m kq2 kB2 k02 mt2 g2 r2 f3 f3m hfull hfin tr htf fx kB hB hxI hdr hdb K0 K2 c0 d0 d2 HY
    go_wp2_with fail
    go_region
    go_wp2_with fail
    go_region
    go_wp2_with fail
    go_ret
    obtain ⟨f1, f2, f3⟩ := unhide HFIN
    exact ⟨rfl, ⟨_, f1, f3⟩, f2⟩
end
end Go.Proofs.YtjjdkkdnlnbedaaGreat

