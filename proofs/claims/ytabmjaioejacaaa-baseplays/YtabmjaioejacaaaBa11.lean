/- A base's Expire. -/
import Derived.Test.YtabmjaioejacaaaBa10
import Derived.Test.YtabmjaioejacaaaRgStep
import Derived.OwnWalk
namespace Go.Proofs.Ytabmjaioejacaaa
open Go.RowKit Kt Qu
set_option linter.unusedVariables false

/-- How long the row is that a cell holds. -/
def rl (w : World) (B : Nat) : Nat := ((w.cell? ⟨B, 0, none⟩).map slen).getD 0
theorem rl_at {w : World} {B : Nat} {t : TypeId} {a : Option Addr} {n c : Nat} (h : Blk w B t #[.slice a n c]) : rl w B = n := by unfold rl; rw [blkAt h 0 (.slice a n c) rfl]; rfl
section
variable {w w' : World} {b n : Nat} {P : Nat → Option Qa} {R : Rows6}
/-- What the closure of Expire keeps: D is where the blocks begin that it may make; C, C + 1, C + 2 are the boxes of the times, of lazy, and of the row. -/
structure EJ (w0 w : World) (o : Option Qa) (m C : Nat) (f0 f1 f2 : Int) (lz : Bool) (L A S : List Tmr) (v : Value) : Prop where
  q : Qo w o m S
  k0 : Blk w C 23 #[.int .i64 f0, .int .i64 f1, .int .i64 f2]
  k1 : Blk w (C + 1) 4 #[.bool lz]
  k2 : Blk w (C + 2) 27 #[v]
  row : Rg rtm w (C + 3) v (L ++ A)
  ft : Ft (fun k => fo o k ∨ C + 2 ≤ k) w0 w
  nf : ∀ k, fo o k → k < C
theorem EJ.below {w0 w w2 : World} {o : Option Qa} {m C : Nat} {f0 f1 f2 : Int} {lz : Bool} {L A S : List Tmr} {v : Value} (h : EJ w0 w o m C f0 f1 f2 lz L A S v) (hb : Below w.heap.size w w2) : EJ w0 w2 o m C f0 f1 f2 lz L A S v :=
  ⟨h.q.below hb, h.k0.below hb h.k0.lt, h.k1.below hb h.k1.lt, h.k2.below hb h.k2.lt, h.row.below hb, h.ft.trans (Ft.of_below _ hb), h.nf⟩
/-- A queue has changed. -/
theorem EJ.took {w0 w w2 : World} {o : Option Qa} {m C : Nat} {f0 f1 f2 : Int} {lz : Bool} {L A S S2 : List Tmr} {v : Value} (h : EJ w0 w o m C f0 f1 f2 lz L A S v) (hq : Qo w2 o m S2) (f : Ft (fo o) w w2) : EJ w0 w2 o m C f0 f1 f2 lz L A S2 v :=
  ⟨hq, h.k0.ft f (fun e => by have := h.nf _ e; omega), h.k1.ft f (fun e => by have := h.nf _ e; omega), h.k2.ft f (fun e => by have := h.nf _ e; omega), h.row.ft f (fun g hg e => by have := h.nf _ e; have := (h.row.lt g hg).1; omega), h.ft.trans (f.mono fun k hk => .inl hk), h.nf⟩
/-- The row has grown, and is told. -/
theorem EJ.grew {w0 w w2 : World} {o : Option Qa} {m C : Nat} {f0 f1 f2 : Int} {lz : Bool} {L A A2 S : List Tmr} {v v2 : Value} (h : EJ w0 w o m C f0 f1 f2 lz L A S v) (g : w.grownBy w2 v.ownBlock) (hr : Rg rtm w2 (C + 3) v2 (L ++ A2)) : EJ w0 (w2.setCell ⟨C + 2, 0, none⟩ v2) o m C f0 f1 f2 lz L A2 S v2 := by
  have hv : ∀ k, v.ownBlock = some k → C + 3 ≤ k := fun k hk => (h.row.lt k hk).1
  have f1 : Ft (fun k => C + 2 ≤ k) w (w2.setCell ⟨C + 2, 0, none⟩ v2) := ((Ft.refl (fun k => C + 2 ≤ k) w).grown g (fun k hk => .inl (by have := hv k hk; omega))).set (.inl (Nat.le_refl _)) 0 _
  refine ⟨h.q.ft f1 (fun k hk e => by have := h.nf _ hk; omega), h.k0.ft f1 (by omega), h.k1.ft f1 (by omega), ?_, hr.setB 0 _, h.ft.trans (f1.mono fun k hk => .inr hk), h.nf⟩
  exact (h.k2.grownR g fun e => by have := hv _ e.symm; omega).put 0 v2
/-- A box beside it has changed. -/
theorem EJ.box {w0 w w2 : World} {o : Option Qa} {m C : Nat} {f0 f1 f2 : Int} {lz : Bool} {L A S : List Tmr} {v : Value} {g : Nat} (h : EJ w0 w o m C f0 f1 f2 lz L A S v) (f : Ft (fun k => k = g) w w2) (hg : C + 3 ≤ g) (hv : ∀ x, v.ownBlock = some x → x ≠ g) : EJ w0 w2 o m C f0 f1 f2 lz L A S v :=
  ⟨h.q.ft f (fun k hk e => by have := h.nf _ hk; omega), h.k0.ft f (by omega), h.k1.ft f (by omega), h.k2.ft f (by omega), h.row.ft f (fun x hx e => hv x hx e), h.ft.trans (f.mono fun k hk => .inr (by omega)), h.nf⟩
theorem ftg_set5 (w : World) (g : Nat) (a b c d e : Value) : Ft (fun k => k = g) w (((((w.setCell ⟨g, 0, none⟩ a).setCell ⟨g, 1, none⟩ b).setCell ⟨g, 2, none⟩ c).setCell ⟨g, 3, none⟩ d).setCell ⟨g, 4, none⟩ e) :=
  (((((Ft.refl (fun k => k = g) w).set (.inl rfl) 0 _).set (.inl rfl) 1 _).set (.inl rfl) 2 _).set (.inl rfl) 3 _).set (.inl rfl) 4 _
theorem blk_set5 {w : World} {g : Nat} {t : TypeId} {z0 z1 z2 z3 z4 : Value} (h : Blk w g t #[z0, z1, z2, z3, z4]) (a b c d e : Value) : Blk (((((w.setCell ⟨g, 0, none⟩ a).setCell ⟨g, 1, none⟩ b).setCell ⟨g, 2, none⟩ c).setCell ⟨g, 3, none⟩ d).setCell ⟨g, 4, none⟩ e) g t #[a, b, c, d, e] :=
  ((((h.put 0 a).put 1 b).put 2 c).put 3 d).put 4 e
/-- What a round of the closure's loop has at hand. -/
structure ER (w0 w : World) (o : Option Qa) (m C : Nat) (f0 f1 f2 : Int) (lz : Bool) (now : Int) (l L A S : List Tmr) (B : Nat) (t : Tmr) (ok : Bool) (v : Value) : Prop where
  e : EJ w0 w o m C f0 f1 f2 lz L A S v
  kt : Blk w B 29 #[.int .i64 t.id, .int .i64 t.clock, .int .i64 t.soft, .int .i64 t.hard, .bool t.lazy]
  hv : ∀ x, v.ownBlock = some x → x ≠ B
  hB : C + 3 ≤ B
  yes : ok = true → l = A ++ t :: S ∧ dueT now t
  no : ok = false → l = A ++ S ∧ ∀ y S', S = y :: S' → ¬ dueT now y
  all : ∀ y ∈ A, dueT now y
/-- The first ones that are due, and the others. -/
def dueP (now : Int) (l : List Tmr) : List Tmr := l.takeWhile fun t => decide (dueT now t)
def dueS (now : Int) (l : List Tmr) : List Tmr := l.dropWhile fun t => decide (dueT now t)
theorem due_split {now : Int} {l A S : List Tmr} (h : l = A ++ S) (hA : ∀ t ∈ A, dueT now t) (hS : ∀ y S', S = y :: S' → ¬ dueT now y) : dueP now l = A ∧ dueS now l = S := by
  subst h
  have h1 : (A ++ S).takeWhile (fun t => decide (dueT now t)) = A ++ S.takeWhile (fun t => decide (dueT now t)) := List.takeWhile_append_of_pos (by intro t ht; exact decide_eq_true (hA t ht))
  have h2 : (A ++ S).dropWhile (fun t => decide (dueT now t)) = S.dropWhile (fun t => decide (dueT now t)) := List.dropWhile_append_of_pos (by intro t ht; exact decide_eq_true (hA t ht))
  unfold dueP dueS
  rw [h1, h2]
  cases S with
  | nil => exact ⟨by simp, by simp⟩
  | cons y S' =>
    have := hS y S' rfl
    rw [List.takeWhile_cons, List.dropWhile_cons, if_neg (by simpa using this), if_neg (by simpa using this), List.append_nil]
    exact ⟨rfl, rfl⟩
set_option maxRecDepth 20000 in
set_option maxHeartbeats 1000000 in
theorem expc_other (C : Nat) (k isl lz : Value) (w : World) (b1 b2 : Bool) (hne : b1 ≠ b2) (x q y z : Value) (k1 : Blk w C 4 #[.bool b2]) :
    Calls Try.prog 28 #[x, .bool b1, q, .pointer (some ⟨C, 0, none⟩), y, z] w fun e w' => e = .returned (.tuple #[]) ∧ w' = w := by
  have c0 := blkAt k1 0 (.bool b2) rfl
  clear k1
  have hb : (b1 == b2) = false := by rw [beq_eq_false_iff_ne]; exact hne
  cases b1 <;> cases b2
  · exact absurd rfl hne
  · go_enter Try.func28, Try.ntmps28
    go_wp2
    refine bodyPost_ret (results_none rfl _ _ _) rfl ?_
    exact ⟨rfl, rfl⟩
  · go_enter Try.func28, Try.ntmps28
    go_wp2
    refine bodyPost_ret (results_none rfl _ _ _) rfl ?_
    exact ⟨rfl, rfl⟩
  · exact absurd rfl hne
/-- What a call of Due tells, and leaves. -/
theorem odue_any {o : Option Qa} {m : Nat} {S : List Tmr} (h : Qo w o m S) (now : Int) : ∃ (t : Tmr) (ok : Bool) (S2 : List Tmr), (ok = true → S = t :: S2 ∧ dueT now t) ∧ (ok = false → S = S2 ∧ ∀ y S', S = y :: S' → ¬ dueT now y) ∧
    Calls Try.prog 29 #[pv o, .int .i64 now] w fun e w' => e = .returned (.tuple #[tv t, .bool ok]) ∧ Qo w' o m S2 ∧ Ft (fo o) w w' := by
  by_cases hd : ∃ y S', S = y :: S' ∧ dueT now y
  · obtain ⟨y, S', rfl, hy⟩ := hd
    exact ⟨y, true, S', (fun _ => ⟨rfl, hy⟩), (fun e => by cases e), odue_ok h now hy⟩
  · refine ⟨t0, false, S, (fun e => by cases e), (fun _ => ⟨rfl, fun y S' e hy => hd ⟨y, S', e, hy⟩⟩), ?_⟩
    refine (odue_no h now (fun y S' e hy => hd ⟨y, S', e, hy⟩)).mono ?_
    rintro e w' ⟨rfl, hb⟩
    exact ⟨rfl, h.below hb, Ft.of_below _ hb⟩
set_option maxRecDepth 20000 in
set_option maxHeartbeats 2000000 in
theorem expclo (o : Option Qa) (m : Nat) (l L : List Tmr) (w0 w : World) (C : Nat) (f0 f1 f2 : Int) (lz : Bool) (k : Nat) (now : Int) (v : Value) (hk : k = 0 ∧ now = f0 ∨ k = 1 ∧ now = f1 ∨ k = 2 ∧ now = f2)
    (h : EJ w0 w o m C f0 f1 f2 lz L [] l v) (hL : L.length ≤ 1000) :
    Calls Try.prog 28 #[.int .i64 (k : Int), .bool lz, pv o, .pointer (some ⟨C + 1, 0, none⟩), .pointer (some ⟨C, 0, none⟩), .pointer (some ⟨C + 2, 0, none⟩)] w fun e w' => e = .returned (.tuple #[]) ∧ ∃ v', EJ w0 w' o m C f0 f1 f2 lz L (dueP now l) (dueS now l) v' := by
  have hlen := h.q.len
  have hk3 : k < 3 := by omega
  have hk4 : (k : Int) < 3 := by omega
  have hk5 : (0 : Int) ≤ (k : Int) ∧ (k : Int) < 3 := by omega
  have c1 := blkAt h.k1 0 (.bool lz) rfl
  have hbb : (lz == lz) = true := by simp
  have HT := hide (fun (w' : World) (k0 : Blk w' C 23 #[.int .i64 f0, .int .i64 f1, .int .i64 f2]) => show w'.cell? ⟨C, k, none⟩ = some (.int .i64 now) by
    rcases hk with ⟨rfl, rfl⟩ | ⟨rfl, rfl⟩ | ⟨rfl, rfl⟩
    · exact blkAt k0 0 (.int .i64 now) rfl
    · exact blkAt k0 1 (.int .i64 now) rfl
    · exact blkAt k0 2 (.int .i64 now) rfl)
  have y0 := unhide HT w h.k0
  obtain ⟨t, ok, S, d1, d2, CD0⟩ := odue_any h.q now
  have CD := hide CD0
  clear CD0
  have HD := hide (And.intro d1 d2)
  have HE := hide h
  have CDA := hide (fun (w' : World) (S : List Tmr) (hq : Qo w' o m S) => odue_any hq now)
  obtain ⟨V, hV⟩ : ∃ V, pv o = V := ⟨_, rfl⟩
  rw [hV] at CD CDA ⊢
  obtain ⟨i1, i2, i3, i4, i5⟩ := t
  simp only [tv] at CD
  clear h hk d1 d2 hV
  go_enter Try.func28, Try.ntmps28
  go_wp2_with (go_at_call 29; refine Hid.out ?_)
  refine hide ?_
  refine (unhide CD).mono ?_
  rintro e w1 ⟨rfl, q1, ft1⟩
  have e1 := (unhide HE).took q1 ft1
  obtain ⟨g, hg⟩ : ∃ g, w1.heap.size = g := ⟨_, rfl⟩
  have hgC : C + 3 ≤ g := by have := e1.k2.lt; omega
  have e2 := hide (e1.below (one_below w1 (.cells #[.int .i64 i1, .int .i64 i2, .int .i64 i3, .int .i64 i4, .bool i5] 29)))
  have kt := hide (Blk.new_at w1 29 #[.int .i64 i1, .int .i64 i2, .int .i64 i3, .int .i64 i4, .bool i5] hg.symm)
  have hv := hide (fun x (hx : v.ownBlock = some x) => show x ≠ g by have := (e1.row.lt x hx).2; omega)
  clear q1 ft1 e1 CD
  go_wp2_with fail
  have HR0 := hide (show ER w0 (w1.alloc (.cells #[.int .i64 i1, .int .i64 i2, .int .i64 i3, .int .i64 i4, .bool i5] 29)) o m C f0 f1 f2 lz now l L [] S g ⟨i1, i2, i3, i4, i5⟩ ok v from
    ⟨unhide e2, unhide kt, unhide hv, hgC, (fun e => (unhide HD).1 e), (fun e => by obtain ⟨h1, h2⟩ := (unhide HD).2 e; exact ⟨h1, fun y S' h3 => h2 y S' (h1.trans h3)⟩), (fun y hy => by cases hy)⟩)
  clear e2 kt hv HD HE hgC c1 y0
  go_loopw [9, 10] (fun s9 s10 w' => ∃ (A S : List Tmr) (B : Nat) (t : Tmr) (ok : Bool) (v : Value), s9 = .pointer (some ⟨B, 0, none⟩) ∧ s10 = .bool ok ∧ Hid (ER w0 w' o m C f0 f1 f2 lz now l L A S B t ok v)) (fun _ _ w' => 2000 - rl w' (C + 2))
  case atStart => exact ⟨[], S, g, ⟨i1, i2, i3, i4, i5⟩, ok, v, rfl, rfl, HR0⟩
  case round =>
    clear HR0
    obtain ⟨A, S, B, t, ok, v, rfl, rfl, HR⟩ := hrel
    cases ok
    · go_wp2_with fail
      go_end0
      obtain ⟨h1, h2⟩ := (unhide HR).no rfl
      obtain ⟨h3, h4⟩ := due_split h1 (unhide HR).all h2
      rw [h3, h4]
      exact ⟨rfl, v, (unhide HR).e⟩
    · obtain ⟨i1, i2, i3, i4, i5⟩ := t
      obtain ⟨hl, hdt⟩ := (unhide HR).yes rfl
      have hlenA : A.length + S.length + 1 = l.length := by rw [hl]; simp; omega
      obtain ⟨ra, rcap, hform, -⟩ := (unhide HR).e.row.form
      subst hform
      have cr := blkAt (unhide HR).e.k2 0 (.slice ra (L ++ A).length rcap) rfl
      have c0 := blkAt (unhide HR).kt 0 (.int .i64 i1) rfl
      have c1 := blkAt (unhide HR).kt 1 (.int .i64 i2) rfl
      have c2 := blkAt (unhide HR).kt 2 (.int .i64 i3) rfl
      have c3 := blkAt (unhide HR).kt 3 (.int .i64 i4) rfl
      have c4 := blkAt (unhide HR).kt 4 (.bool i5) rfl
      have hLA : (L ++ A).length = L.length + A.length := List.length_append
      rw [hLA] at cr
      have HLA := hide hLA
      have HL := hide (And.intro hl hdt)
      have hrl := rl_at (unhide HR).e.k2
      rw [hLA] at hrl
      have HRL := hide hrl
      have HBX := hide (Blk.new wr 29 #[.int .i64 i1, .int .i64 i2, .int .i64 i3, .int .i64 i4, .bool i5])
      have hCw := (unhide HR).e.k2.lt
      have HRW := hide (by have := (unhide HR).e.row.below (one_below wr (.cells #[.int .i64 i1, .int .i64 i2, .int .i64 i3, .int .i64 i4, .bool i5] 29)); rw [hLA] at this; exact this)
      have hszA : C + 3 ≤ (wr.alloc (.cells #[.int .i64 i1, .int .i64 i2, .int .i64 i3, .int .i64 i4, .bool i5] 29)).heap.size := by simp; omega
      have HSZ := hide hszA
      clear hl hdt hLA hrl hszA
      go_wp2_with (at_builtin; refine rlist_app rtm rfl _ _ rfl (C + 3) (.slice ra (L.length + A.length) rcap) (L ++ A) rfl (unhide HRW) [⟨i1, i2, i3, i4, i5⟩] (rnews_box rtm (unhide HBX) rfl) (by simp; omega) (unhide HSZ) ?_)
      intro v2 w2 o2 g2
      obtain ⟨ra2, rcap2, hform2, -⟩ := o2.form
      have hL2 : (L ++ (A ++ [(⟨i1, i2, i3, i4, i5⟩ : Tmr)])).length = L.length + A.length + 1 := by simp; omega
      subst hform2
      rw [hL2] at o2 ⊢
      have hR := unhide HR
      have eA := hR.e.below (one_below wr (.cells #[.int .i64 i1, .int .i64 i2, .int .i64 i3, .int .i64 i4, .bool i5] 29))
      have ktA := hR.kt.below (one_below wr (.cells #[.int .i64 i1, .int .i64 i2, .int .i64 i3, .int .i64 i4, .bool i5] 29)) hR.kt.lt
      rw [unhide HLA] at eA hR
      have nv : ∀ x, (Value.slice ra (L.length + A.length) rcap).ownBlock = some x → x ≠ C + 2 := fun x hx e => by have := (eA.row.lt x hx).1; omega
      have kB2 := ktA.grownR g2 (fun e => hR.hv _ e.symm rfl)
      have kC2 := eA.k2.grownR g2 (fun e => nv _ e.symm rfl)
      have d0 := blkAt kB2 0 (.int .i64 i1) rfl
      have d1 := blkAt kB2 1 (.int .i64 i2) rfl
      have d2 := blkAt kB2 2 (.int .i64 i3) rfl
      have d3 := blkAt kB2 3 (.int .i64 i4) rfl
      have d4 := blkAt kB2 4 (.bool i5) rfl
      have r0 := blkAt kC2 0 (.slice ra (L.length + A.length) rcap) rfl
      have rf := kC2.free 0
      have hne : B ≠ C + 2 := by have := hR.hB; omega
      have hne2 : (C + 2 = B) = False := by simp; omega
      have e3 := eA.grew (A2 := A ++ [⟨i1, i2, i3, i4, i5⟩]) g2 o2
      obtain ⟨g', hg'⟩ : ∃ g', w2.heap.size = g' := ⟨_, rfl⟩
      obtain ⟨W4, hW4⟩ : ∃ W4, W4 = (w2.setCell ⟨C + 2, 0, none⟩ (.slice ra2 (L.length + A.length + 1) rcap2)).alloc (.cells #[.int .i64 i1, .int .i64 i2, .int .i64 i3, .int .i64 i4, .bool i5] 29) := ⟨_, rfl⟩
      have e4 : EJ w0 W4 o m C f0 f1 f2 lz L (A ++ [⟨i1, i2, i3, i4, i5⟩]) S (.slice ra2 (L.length + A.length + 1) rcap2) := by rw [hW4]; exact e3.below (one_below _ _)
      have kt4 : Blk W4 g' 29 #[.int .i64 i1, .int .i64 i2, .int .i64 i3, .int .i64 i4, .bool i5] := by rw [hW4]; exact Blk.new_at _ _ _ (by simp [hg'])
      have hg3 : C + 3 ≤ g' := by have := kC2.lt; omega
      have hv4 : ∀ x, (Value.slice ra2 (L.length + A.length + 1) rcap2).ownBlock = some x → x ≠ g' := fun x hx => by have := (o2.lt x hx).2; omega
      have y4 := unhide HT W4 e4.k0
      rw [hW4] at y4
      obtain ⟨t', ok', S', p1, p2, CD5⟩ := unhide CDA W4 S e4.q
      have CD6 := hide CD5
      have HP := hide (And.intro p1 p2)
      have H4 := hide (And.intro e4 (And.intro kt4 (And.intro hg3 hv4)))
      have HA := hide hR.all
      have HW4 := hide hW4
      obtain ⟨x1, x2, x3, x4, x5⟩ := t'
      simp only [tv] at CD6
      clear HBX HRW HSZ HR o2 g2 hR eA ktA kB2 kC2 e3 hW4 e4 kt4 hv4 p1 p2 CD5 cr c0 c1 c2 c3 c4 nv HLA hL2
      go_wp2_with (go_at_call 29; refine Hid.out ?_)
      refine hide ?_
      rw [← unhide HW4]
      refine (unhide CD6).mono ?_
      rintro e w5 ⟨rfl, q5, f5⟩
      obtain ⟨e4, kt4, hg3, hv4⟩ := unhide H4
      have e5 := e4.took q5 f5
      have kt5 := kt4.ft f5 (fun hk => by have := e4.nf _ hk; omega)
      have s0 := blkAt kt5 0 (.int .i64 i1) rfl
      have s1 := blkAt kt5 1 (.int .i64 i2) rfl
      have s2 := blkAt kt5 2 (.int .i64 i3) rfl
      have s3 := blkAt kt5 3 (.int .i64 i4) rfl
      have s4 := blkAt kt5 4 (.bool i5) rfl
      have sf := kt5.free
      have H5 := hide (And.intro e5 (And.intro kt5 (And.intro hg3 hv4)))
      clear e4 kt4 hg3 hv4 e5 kt5 q5 f5 H4 CD6 HW4
      go_wp2_with fail
      obtain ⟨e5, kt5, hg3, hv4⟩ := unhide H5
      have e6 := e5.box (ftg_set5 w5 g' (.int .i64 x1) (.int .i64 x2) (.int .i64 x3) (.int .i64 x4) (.bool x5)) hg3 hv4
      have kt6 := blk_set5 kt5 (.int .i64 x1) (.int .i64 x2) (.int .i64 x3) (.int .i64 x4) (.bool x5)
      have hr6 := rl_at e6.k2
      obtain ⟨hl, hdt⟩ := unhide HL
      obtain ⟨p1, p2⟩ := unhide HP
      have hrw := unhide HRL
      have H6 := hide (show ER w0 _ o m C f0 f1 f2 lz now l L (A ++ [⟨i1, i2, i3, i4, i5⟩]) S' g' ⟨x1, x2, x3, x4, x5⟩ ok' _ from
        ⟨e6, kt6, hv4, hg3, (fun e => by obtain ⟨h1, h2⟩ := p1 e; exact ⟨by rw [hl, h1]; simp, h2⟩), (fun e => by obtain ⟨h1, h2⟩ := p2 e; exact ⟨by rw [hl, h1]; simp, fun y S2 h3 => h2 y S2 (h1.trans h3)⟩), (fun y hy => by
          rcases List.mem_append.1 hy with hy | hy
          · exact unhide HA y hy
          · rw [List.mem_singleton] at hy; rw [hy]; exact hdt)⟩)
      clear e5 kt5 hv4 e6 kt6 hl hdt p1 p2 H5 HL HP HRL HA
      go_roundw
      case rel => exact ⟨_, _, g', _, ok', _, rfl, rfl, H6⟩
      case measure => rw [hr6, hrw]; omega
end
end Go.Proofs.Ytabmjaioejacaaa
