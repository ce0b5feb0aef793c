import Derived.Test.YtihfldjoogaolaaQu7
namespace Go.Proofs.Ytihfldjoogaolaa
open Go.RowKit Kt Qu
set_option linter.unusedVariables false

/-- What a client sees of a queue: its timers, in order. -/
def Qs (w : World) (a : Qa) (n : Nat) (R : List Tmr) : Prop := ∃ L, Que w a n L ∧ L.map (·.tm) = R
section
variable {w w' : World} {a : Qa} {n : Nat} {R : List Tmr}
theorem Que.up {L : List QI} (h : Que w a n L) (hn : n < 1000000) : Que w a (n + 1) L :=
  ⟨h.blk, h.tre.imp fun tf ht => ⟨ht.1, fun x => ⟨(ht.2 x).1, by have := (ht.2 x).2; omega⟩⟩, h.mh.mono (Nat.le_succ n), h.mt.mono (Nat.le_succ n), h.nd, fun y hy => ⟨(h.ok y hy).1, (h.ok y hy).2.1, (h.ok y hy).2.2.1, by have := (h.ok y hy).2.2.2; omega⟩, h.ap, by omega⟩
theorem Qs.up (h : Qs w a n R) (hn : n < 1000000) : Qs w a (n + 1) R := by obtain ⟨L, h1, h2⟩ := h; exact ⟨L, h1.up hn, h2⟩
theorem Qs.ft {F : Nat → Prop} (h : Qs w a n R) (ht : Ft F w w') (hn : ∀ k, a.foot k → ¬ F k) : Qs w' a n R := by obtain ⟨L, h1, h2⟩ := h; exact ⟨L, h1.ft ht hn, h2⟩
theorem Qs.below (h : Qs w a n R) (hb : Below w.heap.size w w') : Qs w' a n R := by obtain ⟨L, h1, h2⟩ := h; exact ⟨L, h1.below hb, h2⟩
theorem Qs.lts (h : Qs w a n R) : ∀ k, a.foot k → k < w.heap.size := by obtain ⟨L, h1, h2⟩ := h; exact h1.lts
theorem Qs.len (h : Qs w a n R) : R.length ≤ 64 := by obtain ⟨L, h1, rfl⟩ := h; rw [List.length_map]; exact h1.len
theorem Qs.srt (h : Qs w a n R) : SrtT R := by obtain ⟨L, h1, rfl⟩ := h; exact h1.srt
theorem Qs.ids (h : Qs w a n R) : (idsT R).Nodup := by
  obtain ⟨L, h1, rfl⟩ := h
  unfold idsT
  rw [List.map_map]
  exact h1.nd.1
theorem Qs.ok (h : Qs w a n R) : ∀ t ∈ R, okT t := by
  obtain ⟨L, h1, rfl⟩ := h
  intro t ht
  obtain ⟨y, hy, rfl⟩ := List.mem_map.1 ht
  exact (h1.ok y hy).1
theorem Qs.nb (h : Qs w a n R) : n ≤ 1000000 := by obtain ⟨L, h1, h2⟩ := h; exact h1.nb
theorem ids_map (L : List QI) : L.map (·.tm.id) = idsT (L.map (·.tm)) := by unfold idsT; rw [List.map_map]; rfl
theorem snew (w : World) : Calls Try.prog 6 #[] w fun e w' => ∃ a : Qa, e = .returned (.pointer (some ⟨a.q, 0, none⟩)) ∧ Qs w' a 0 [] ∧ Below w.heap.size w w' ∧ ∀ k, a.foot k → w.heap.size ≤ k := by
  refine (qnew_any w).mono ?_
  rintro e w' ⟨a, rfl, h, b, f⟩
  exact ⟨a, rfl, ⟨[], h, rfl⟩, b, f⟩
/-- What Add answers, and what the row is then. -/
def addE (R : List Tmr) (t : Tmr) : Int := if t.hard < t.soft then 2 else if t.id ∈ idsT R then 9 else if R.length = 64 then 3 else 0
def addR (R : List Tmr) (t : Tmr) : List Tmr := if addE R t = 0 then insT t R else R
theorem sadd (h : Qs w a n R) (hn : n < 1000000) (t : Tmr) (ht : okT t) : Calls Try.prog 9 #[.pointer (some ⟨a.q, 0, none⟩), tv t] w fun e w' => e = .returned (.int .i64 (addE R t)) ∧ Qs w' a (n + 1) (addR R t) ∧ Ft a.foot w w' := by
  unfold addR addE
  by_cases h1 : t.hard < t.soft
  · rw [if_pos h1, if_neg (by decide)]
    refine (qadd_inval a.q w t h1).mono ?_
    rintro e w' ⟨rfl, hb⟩
    exact ⟨rfl, (h.below hb).up hn, Ft.of_below _ hb⟩
  · rw [if_neg h1]
    obtain ⟨L, hq, rfl⟩ := h
    by_cases h2 : t.id ∈ idsT (L.map (·.tm))
    · rw [if_pos h2, if_neg (by decide)]
      refine (qadd_busy hq t h1 (by rw [ids_map]; exact h2)).mono ?_
      rintro e w' ⟨rfl, hb⟩
      exact ⟨rfl, ⟨L, (hq.below hb).up hn, rfl⟩, Ft.of_below _ hb⟩
    · rw [if_neg h2]
      by_cases h3 : (L.map (·.tm)).length = 64
      · rw [if_pos h3, if_neg (by decide)]
        refine (qadd_full hq t h1 ht.1 (by rw [ids_map]; exact h2) (by rw [List.length_map] at h3; exact h3)).mono ?_
        rintro e w' ⟨rfl, hb⟩
        exact ⟨rfl, ⟨L, (hq.below hb).up hn, rfl⟩, Ft.of_below _ hb⟩
      · rw [if_neg h3, if_pos rfl]
        have hl := hq.len
        rw [List.length_map] at h3
        refine (qadd_ok hq hn t h1 ht (by rw [ids_map]; exact h2) (by omega)).mono ?_
        rintro e w' ⟨rfl, ⟨L', h4, h5⟩, f⟩
        exact ⟨rfl, ⟨L', h4, h5⟩, f⟩
theorem sfirst (h : Qs w a n R) : Calls Try.prog 14 #[.pointer (some ⟨a.q, 0, none⟩)] w fun e w' => e = .returned (fstV R) ∧ Below w.heap.size w w' := by
  obtain ⟨L, hq, rfl⟩ := h
  exact qfirst_any hq
theorem slen_any (h : Qs w a n R) : Calls Try.prog 15 #[.pointer (some ⟨a.q, 0, none⟩)] w fun e w' => e = .returned (.int .i64 R.length) ∧ w' = w := by
  obtain ⟨L, hq, rfl⟩ := h
  rw [List.length_map]
  exact qlen_any hq
theorem sall (h : Qs w a n R) : Calls Try.prog 13 #[.pointer (some ⟨a.q, 0, none⟩)] w fun e w' => ∃ v, e = .returned v ∧ Rg rtm w' w.heap.size v R ∧ Below w.heap.size w w' := by
  obtain ⟨L, hq, rfl⟩ := h
  exact qall_any hq
theorem shas (h : Qs w a n R) (id : Int) (hid : isI id) : Calls Try.prog 16 #[.pointer (some ⟨a.q, 0, none⟩), .int .i64 id] w fun e w' => e = .returned (.bool (decide (id ∈ idsT R))) ∧ Below w.heap.size w w' := by
  obtain ⟨L, hq, rfl⟩ := h
  by_cases hm : id ∈ idsT (L.map (·.tm))
  · rw [decide_eq_true hm]
    rw [← ids_map] at hm
    obtain ⟨y, hy, rfl⟩ := List.mem_map.1 hm
    exact qhas_in hq y hy
  · rw [decide_eq_false hm]
    rw [← ids_map] at hm
    exact qhas_out hq id hid hm
theorem sdrop_none (h : Qs w a n R) (id : Int) (hid : isI id) (hm : id ∉ idsT R) : Calls Try.prog 10 #[.pointer (some ⟨a.q, 0, none⟩), .int .i64 id] w fun e w' => e = .returned (.tuple #[tv t0, .bool false]) ∧ Below w.heap.size w w' := by
  obtain ⟨L, hq, rfl⟩ := h
  rw [← ids_map] at hm
  exact qdrop_none hq id hid hm
theorem sdrop_ok {A B : List Tmr} {t : Tmr} (h : Qs w a n (A ++ t :: B)) : Calls Try.prog 10 #[.pointer (some ⟨a.q, 0, none⟩), .int .i64 t.id] w fun e w' => e = .returned (.tuple #[tv t, .bool true]) ∧ Qs w' a n (A ++ B) ∧ Ft a.foot w w' := by
  obtain ⟨L, hq, hL⟩ := h
  obtain ⟨X, Y', rfl, rfl, h2⟩ := List.map_eq_append_iff.1 hL
  obtain ⟨y, Y, rfl, rfl, rfl⟩ := List.map_eq_cons_iff.1 h2
  refine (qdrop_ok X Y y hq).mono ?_
  rintro e w' ⟨rfl, h3, f⟩
  exact ⟨rfl, ⟨_, h3, by rw [List.map_append]⟩, f⟩
theorem sdue_no (h : Qs w a n R) (now : Int) (hd : ∀ y S, R = y :: S → ¬ dueT now y) : Calls Try.prog 11 #[.pointer (some ⟨a.q, 0, none⟩), .int .i64 now] w fun e w' => e = .returned (.tuple #[tv t0, .bool false]) ∧ Below w.heap.size w w' := by
  obtain ⟨L, hq, rfl⟩ := h
  exact qdue_no hq now fun y S e => hd y.tm (S.map (·.tm)) (by rw [e]; rfl)
theorem sdue_ok {t : Tmr} (h : Qs w a n (t :: R)) (now : Int) (hd : dueT now t) : Calls Try.prog 11 #[.pointer (some ⟨a.q, 0, none⟩), .int .i64 now] w fun e w' => e = .returned (.tuple #[tv t, .bool true]) ∧ Qs w' a n R ∧ Ft a.foot w w' := by
  obtain ⟨L, hq, hL⟩ := h
  obtain ⟨y, Y, rfl, rfl, rfl⟩ := List.map_eq_cons_iff.1 hL
  refine (qdue_ok y Y hq now hd).mono ?_
  rintro e w' ⟨rfl, h3, f⟩
  exact ⟨rfl, ⟨_, h3, rfl⟩, f⟩
end
/-- A queue that a law made: all that it touched lies from C on. -/
structure Qv (C : Nat) (w0 w : World) (a : Qa) (n : Nat) (R : List Tmr) : Prop where
  q : Qs w a n R
  low : Below C w0 w
  cs : C ≤ w.heap.size
  foot : ∀ k, a.foot k → C ≤ k
section
variable {C : Nat} {w0 w w' : World} {a : Qa} {n n' : Nat} {R R' : List Tmr}
theorem Qv.step (h : Qv C w0 w a n R) (h2 : Qs w' a n' R') (f : Ft a.foot w w') : Qv C w0 w' a n' R' := ⟨h2, f.low h.low h.foot h.cs, Nat.le_trans h.cs f.size, h.foot⟩
theorem Qv.below (h : Qv C w0 w a n R) (hb : Below w.heap.size w w') : Qv C w0 w' a n R := h.step (h.q.below hb) (Ft.of_below _ hb)
theorem Qv.new (hb : Below C w0 w) (hC : C ≤ w.heap.size) (hq : Qs w' a n R) (h1 : Below w.heap.size w w') (hf : ∀ k, a.foot k → w.heap.size ≤ k) : Qv C w0 w' a n R := ⟨hq, hb.trans (h1.mono hC), Nat.le_trans hC h1.size, fun k hk => Nat.le_trans hC (hf k hk)⟩
end
end Go.Proofs.Ytihfldjoogaolaa
