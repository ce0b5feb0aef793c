import Derived.Test.YtihfldjoogaolaaTz
namespace Go.Proofs.Ytihfldjoogaolaa
open Go.RowKit

/-- What a client sees of a node: its place, its turn, its key. -/
structure It where
  n : Nat
  tu : Int
  a : Int
  b : Int
def itOf (st : St) (x : Nat) : It := ⟨x, (st.nd x).turn, (st.nd x).time, (st.nd x).seq⟩
/-- The client's view of a tree: the nodes in order, and how often each place was filled. -/
def Tre (w : World) (T G P : Nat) (tf : Nat → Int) (L : List It) : Prop :=
  ∃ st t fl, Own w T G P st ∧ Inv P st t fl ∧ L = t.list.map (itOf st) ∧ ∀ x, tf x = (st.nd x).turn
theorem itOf_same {st st' : St} {x : Nat} (h : SameK (st'.nd x) (st.nd x)) : itOf st' x = itOf st x := by
  unfold itOf; rw [h.1, h.2.1, h.2.2.1]
theorem map_same {st st' : St} {l : List Nat} (h : ∀ x ∈ l, SameK (st'.nd x) (st.nd x)) : l.map (itOf st') = l.map (itOf st) :=
  List.map_congr_left fun x hx => itOf_same (h x hx)
theorem Tre.below {w w' : World} {T G P : Nat} {tf : Nat → Int} {L : List It} (h : Tre w T G P tf L) (hb : Below w.heap.size w w') : Tre w' T G P tf L := by
  obtain ⟨st, t, fl, o, i, e, f⟩ := h
  exact ⟨st, t, fl, o.below hb, i, e, f⟩
theorem Tre.lts {w : World} {T G P : Nat} {tf : Nat → Int} {L : List It} (h : Tre w T G P tf L) : T < w.heap.size ∧ G < w.heap.size ∧ T ≠ G := by
  obtain ⟨st, t, fl, o, i, e, f⟩ := h
  exact ⟨o.box.lt, o.lt, fun e => o.ne e⟩
theorem Tre.len {w : World} {T G P : Nat} {tf : Nat → Int} {L : List It} (h : Tre w T G P tf L) : L.length ≤ P := by
  obtain ⟨st, t, fl, o, i, e, f⟩ := h
  have := i.cover
  rw [e, List.length_map]; omega
theorem sh_ne0 {nd : Nat → Nd} : ∀ (t : Tr) (u : Nat), Sh nd t u → ∀ x ∈ t.list, x ≠ 0
  | .nil, _, _, x, hx => by simp [Tr.list] at hx
  | .node p l r, u, h, x, hx => by
    obtain ⟨h1, _, _, _, h5, h6⟩ := h
    rw [Tr.list, List.mem_append, List.mem_cons] at hx
    rcases hx with hx | rfl | hx
    · exact sh_ne0 l p h5 x hx
    · exact h1
    · exact sh_ne0 r p h6 x hx
theorem Tre.places {w : World} {T G P : Nat} {tf : Nat → Int} {L : List It} (h : Tre w T G P tf L) : (L.map (·.n)).Nodup ∧ ∀ y ∈ L, 1 ≤ y.n ∧ y.n ≤ P ∧ y.tu = tf y.n := by
  obtain ⟨st, t, fl, o, i, e, f⟩ := h
  have hn := i.good.z.nd
  refine ⟨?_, ?_⟩
  · rw [e, List.map_map]
    have : ((fun x : It => x.n) ∘ itOf st) = id := by funext x; rfl
    rw [this, List.map_id]
    exact hn.nt
  · intro y hy
    rw [e] at hy
    obtain ⟨x, hx, rfl⟩ := List.mem_map.1 hy
    have h0 := sh_ne0 t _ i.good.z.sh x hx
    have hb := hn.bt x hx
    exact ⟨by show 1 ≤ x; omega, hb, (f x).symm⟩
theorem tnew (P : Nat) (h1 : 1 ≤ P) (h2 : P ≤ 4096) (w : World) :
    Calls Try.prog 17 #[.int .i64 P] w fun e w' => ∃ T G, e = .returned (.pointer (some ⟨T, 0, none⟩)) ∧ Tre w' T G P (fun _ => 0) [] ∧ Below w.heap.size w w' ∧ w.heap.size ≤ T ∧ w.heap.size ≤ G := by
  refine (new_any P h1 h2 w).mono ?_
  rintro e w' ⟨T, G, st, rfl, o, b, hT, hG, i, tz⟩
  exact ⟨T, G, rfl, ⟨st, .nil, _, o, i, rfl, fun x => (tz x).symm⟩, b, hT, hG⟩
theorem tput (T G P : Nat) (tf : Nat → Int) (L : List It) (w : World) (h : Tre w T G P tf L) (hl : L.length < P) (ht : ∀ x, 0 ≤ tf x ∧ tf x < 1000000) (a b : Int) :
    Calls Try.prog 18 #[.pointer (some ⟨T, 0, none⟩), .agg #[.int .i64 a, .int .i64 b]] w fun e w' => ∃ (n : Nat) (pre post : List It), e = .returned (.tuple #[.agg #[.int .i64 n, .int .i64 (tf n + 1)], .int .i64 0]) ∧ 1 ≤ n ∧ n ≤ P ∧ (∀ y ∈ L, y.n ≠ n) ∧ L = pre ++ post ∧
      (∀ y ∈ pre, klt a b y.a y.b = false) ∧ (∀ y ∈ post, klt a b y.a y.b = true) ∧ Tre w' T G P (fun x => if x = n then tf n + 1 else tf x) (pre ++ ⟨n, tf n + 1, a, b⟩ :: post) ∧ Touch T G w w' := by
  obtain ⟨st, t, fl, o, i, rfl, f⟩ := h
  rw [List.length_map] at hl
  cases fl with
  | nil => have := i.cover; simp at this; omega
  | cons n fl =>
    have hn := i.fbd n (by simp)
    refine (put_any T G P st w o t fl n i a b (by rw [← f]; exact (ht n).1) (by rw [← f]; exact (ht n).2)).mono ?_
    rintro e w' ⟨rfl, st', t', pre, post, o', tt, i', l', l, q1, q2, k1, k2⟩
    have hne : ∀ x ∈ pre ++ post, x ≠ n := fun x hx e => hn.2.2 (by rw [l, ← e]; exact hx)
    have hp : ∀ x ∈ pre, SameK (st'.nd x) (st.nd x) := fun x hx => k2 x (hne x (by simp [hx]))
    have hq : ∀ x ∈ post, SameK (st'.nd x) (st.nd x) := fun x hx => k2 x (hne x (by simp [hx]))
    refine ⟨n, pre.map (itOf st), post.map (itOf st), by rw [f], by omega, hn.2.1, ?_, by rw [l, List.map_append], ?_, ?_, ⟨st', t', fl, o', i', ?_, ?_⟩, tt⟩
    · intro y hy
      obtain ⟨x, hx, rfl⟩ := List.mem_map.1 hy
      exact hne x (by rw [← l]; exact hx)
    · intro y hy
      obtain ⟨x, hx, rfl⟩ := List.mem_map.1 hy
      have := q1 x hx
      unfold kle at this
      rw [k1.1, k1.2.1, (hp x hx).1, (hp x hx).2.1] at this
      exact this
    · intro y hy
      obtain ⟨x, hx, rfl⟩ := List.mem_map.1 hy
      have := q2 x hx
      unfold kle at this
      rw [k1.1, k1.2.1, (hq x hx).1, (hq x hx).2.1] at this
      exact this
    · rw [l', List.map_append, List.map_cons, map_same hp, map_same hq]
      congr 2
      unfold itOf
      rw [k1.1, k1.2.1, k1.2.2.1, f]
      rfl
    · intro x
      by_cases e : x = n
      · subst e
        show (if x = x then tf x + 1 else tf x) = _
        rw [if_pos rfl, k1.2.2.1, f]; rfl
      · show (if x = n then tf n + 1 else tf x) = _
        rw [if_neg e, (k2 x e).2.2.1, f]
/-- The handle of the first one, or none. -/
def hdV : List It → Value
  | [] => .tuple #[.agg #[.int .i64 0, .int .i64 0], .bool false]
  | y :: _ => .tuple #[.agg #[.int .i64 y.n, .int .i64 y.tu], .bool true]
theorem hdl_of {P : Nat} {st : St} {t : Tr} {fl : List Nat} (i : Inv P st t fl) (B : List Nat) (hB : ∀ x ∈ B, x ∈ t.list) : hdl st (B.headD 0) = hdV (B.map (itOf st)) := by
  cases B with
  | nil => rfl
  | cons x r =>
    have h0 := sh_ne0 t _ i.good.z.sh x (hB x (by simp))
    show hdl st x = _
    unfold hdl
    rw [if_neg h0]; rfl
theorem tfirst (T G P : Nat) (tf : Nat → Int) (L : List It) (w : World) (h : Tre w T G P tf L) :
    Calls Try.prog 22 #[.pointer (some ⟨T, 0, none⟩)] w fun e w' => e = .returned (hdV L) ∧ Below w.heap.size w w' := by
  obtain ⟨st, t, fl, o, i, rfl, f⟩ := h
  refine (firstH_any T G P st w o t i.good.z).mono ?_
  rintro e w' ⟨rfl, hb⟩
  refine ⟨?_, hb⟩
  rw [fst_list, hdl_of i t.list (fun x hx => hx)]
theorem tdrop_out (T G P : Nat) (tf : Nat → Int) (L : List It) (w : World) (h : Tre w T G P tf L) (pl tn : Int) (hy : ∀ y ∈ L, ¬ ((y.n : Int) = pl ∧ y.tu = tn)) :
    Calls Try.prog 20 #[.pointer (some ⟨T, 0, none⟩), .agg #[.int .i64 pl, .int .i64 tn]] w fun e w' => e = .returned (.int .i64 7) ∧ Below w.heap.size w w' := by
  obtain ⟨st, t, fl, o, i, rfl, f⟩ := h
  refine drop_none T G P st w o pl tn ?_
  cases hh : hasB P st pl tn
  · rfl
  · obtain ⟨h1, h2, h3⟩ := (hasB_iff i _ _).1 hh
    exact absurd ⟨by show ((pl.toNat : Nat) : Int) = pl; omega, h3⟩ (hy (itOf st pl.toNat) (List.mem_map.2 ⟨_, h2, rfl⟩))
theorem tdrop_in (T G P : Nat) (tf : Nat → Int) (A B : List It) (y : It) (w : World) (h : Tre w T G P tf (A ++ y :: B)) :
    Calls Try.prog 20 #[.pointer (some ⟨T, 0, none⟩), .agg #[.int .i64 y.n, .int .i64 y.tu]] w fun e w' => e = .returned (.int .i64 0) ∧ Tre w' T G P tf (A ++ B) ∧ Touch T G w w' := by
  obtain ⟨st, t, fl, o, i, e, f⟩ := h
  obtain ⟨A0, R0, el, ea, er⟩ := List.map_eq_append_iff.1 e.symm
  obtain ⟨n, B0, rfl, rfl, eb⟩ := List.map_eq_cons_iff.1 er
  refine (drop_any T G P st w o t fl i n (st.nd n).turn ((hasB_iff i _ _).2 ⟨by omega, by rw [el]; simp, by simp⟩)).mono ?_
  rintro e w' ⟨rfl, st', t', A1, B1, o', tt, i', l, l', k, kt⟩
  have hnd := i.good.z.nd.nt
  rw [l] at hnd
  obtain ⟨rfl, rfl⟩ := split_unique (l.symm.trans el) hnd
  have hne : ∀ x ∈ A1 ++ B1, x ≠ n := by
    intro x hx e
    subst e
    have := List.nodup_append.1 hnd
    rcases List.mem_append.1 hx with hx | hx
    · exact this.2.2 x hx x (by simp) rfl
    · exact (List.nodup_cons.1 this.2.1).1 hx
  refine ⟨rfl, ⟨st', t', n :: fl, o', i', ?_, ?_⟩, tt⟩
  · rw [l', List.map_append, map_same (fun x hx => k x (hne x (by simp [hx]))), map_same (l := B1) (fun x hx => k x (hne x (by simp [hx]))), ea, eb]
  · intro x
    by_cases e : x = n
    · subst e; rw [kt, f]
    · rw [(k x e).2.2.1, f]
theorem tlen (T G P : Nat) (tf : Nat → Int) (L : List It) (w : World) (h : Tre w T G P tf L) :
    Calls Try.prog 24 #[.pointer (some ⟨T, 0, none⟩)] w fun e w' => e = .returned (.int .i64 L.length) ∧ w' = w := by
  obtain ⟨st, t, fl, o, i, rfl, f⟩ := h
  rw [List.length_map, ← i.count]
  exact len_any T G P st w o
/-- Sorted: no node is ahead of one that is ahead of it. -/
theorem Tre.srt {w : World} {T G P : Nat} {tf : Nat → Int} {L : List It} (h : Tre w T G P tf L) : L.Pairwise (fun x y => klt y.a y.b x.a x.b = false) := by
  obtain ⟨st, t, fl, o, i, rfl, f⟩ := h
  rw [List.pairwise_map]
  exact i.srt
theorem Tre.set {w : World} {T G P : Nat} {tf : Nat → Int} {L : List It} (h : Tre w T G P tf L) {k : Nat} (h1 : k ≠ T) (h2 : k ≠ G) (j : Nat) (v : Value) : Tre (w.setCell ⟨k, j, none⟩ v) T G P tf L := by
  obtain ⟨st, t, fl, o, i, e, f⟩ := h
  exact ⟨st, t, fl, o.setOther h1 h2 j v, i, e, f⟩
end Go.Proofs.Ytihfldjoogaolaa
