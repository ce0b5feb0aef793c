import Derived.Test.YtkglaklkbodjkaaL10Fixed
import Derived.Test.YtkglaklkbodjkaaWh18
import Derived.Test.YtkglaklkbodjkaaFlt
import Derived.Deep.DeepCutAuto
namespace Go.Proofs.Ytkglaklkbodjkaa
open Go.RowKit Wh
set_option linter.unusedVariables false

/-- A wheel, and a map of the law's own that tells the same. -/
structure WO (C : Nat) (w0 w : World) (B H Mb now n : Nat) (L : List Wh.Item) (sv : Nat → Value) (Mq nq : Nat) : Prop where
  v : Wv C w0 w B H Mb now n L sv
  mp : IMap w Mq nq (mapOf L) L.length
  out : ¬ Foot H Mb sv Mq
  ge : C ≤ Mq
section
variable {C : Nat} {w0 w w' : World} {B H Mb now n Mq nq : Nat} {L : List Wh.Item} {sv sv' : Nat → Value}
theorem out_step (h : ¬ Foot H Mb sv Mq) (hl : Mq < w.heap.size) (k : Fr w w' (Foot H Mb sv) (Foot H Mb sv')) : ¬ Foot H Mb sv' Mq := fun h2 => by
  rcases k.foot Mq h2 with h3 | h3
  · exact h h3
  · omega
theorem wput_ok (h : Wv C w0 w B H Mb now n L sv) (hnow : now ≤ 100000000000) (hn : n < 1000000) (id : Int) (hid : isI id) (hm : id ∉ L.map (·.1)) (hl : L.length < 1024) (t : Nat) (h1 : 1 ≤ t) (h2 : t ≤ 65535) :
    Calls Try.prog 13 #[.pointer (some ⟨H, 0, none⟩), .int .i64 id, .int .i64 (t : Int)] w fun e w' => e = .returned (.int .i64 0) ∧ ∃ sv', Wv C w0 w' B H Mb now (n + 1) (L ++ [(id, now + t)]) sv' ∧ Fr w w' (Foot H Mb sv) (Foot H Mb sv') := by
  refine (put_ok w h.has h.bs h.rw hnow hn id hid hm hl t h1 h2).mono ?_
  rintro e w' ⟨rfl, sv', k1, k2⟩
  exact ⟨rfl, sv', h.step k1 (rw_put h.rw hid hm hl h1 h2) k2, k2⟩
theorem but_snoc {id : Int} {t : Nat} (h : id ∉ L.map (·.1)) : but id (L ++ [(id, t)]) = L := by
  unfold but
  rw [List.filter_append, List.filter_cons, if_neg (by simp), List.filter_nil, List.append_nil, List.filter_eq_self]
  intro x hx
  simp only [decide_eq_true_eq]
  exact fun e => h (List.mem_map.2 ⟨x, hx, e⟩)
/-- Items of the law: numbered below i, due within 5000 ticks. -/
structure Lo (i : Nat) (L : List Wh.Item) : Prop where
  id : ∀ x ∈ L, ∃ j : Nat, j < i ∧ x.1 = (j : Int)
  due : ∀ x ∈ L, x.2 ≤ 5000
  len : L.length ≤ i
theorem Lo.new {i : Nat} (h : Lo i L) : (i : Int) ∉ L.map (·.1) := fun hm => by
  obtain ⟨x, hx, e⟩ := List.mem_map.1 hm
  obtain ⟨j, hj, e2⟩ := h.id x hx
  rw [e2] at e
  omega
theorem Lo.stay {i : Nat} (h : Lo i L) : Lo (i + 1) L := ⟨fun x hx => by obtain ⟨j, hj, e⟩ := h.id x hx; exact ⟨j, by omega, e⟩, h.due, by have := h.len; omega⟩
theorem Lo.put {i : Nat} (h : Lo i L) {t : Nat} (ht : t ≤ 5000) : Lo (i + 1) (L ++ [((i : Int), t)]) := by
  refine ⟨fun x hx => ?_, fun x hx => ?_, by simp; have := h.len; omega⟩
  · rcases List.mem_append.1 hx with hx | hx
    · exact h.stay.id x hx
    · simp only [List.mem_cons, List.not_mem_nil, or_false] at hx
      subst hx; exact ⟨i, by omega, rfl⟩
  · rcases List.mem_append.1 hx with hx | hx
    · exact h.due x hx
    · simp only [List.mem_cons, List.not_mem_nil, or_false] at hx
      subst hx; exact ht
theorem ran_one (now : Nat) (L : List Wh.Item) : ran now L 1 = (restOf (now + 1) L, firedOf (now + 1) L) := by
  show (restOf (now + 0 + 1) L, [] ++ firedOf (now + 0 + 1) L) = _
  rw [List.nil_append]
theorem due_none {now : Nat} (hr : Rw now L) (hd : ∀ x ∈ L, x.2 ≤ now) : L = [] := by
  cases L with
  | nil => rfl
  | cons y l =>
    have h1 := hr.due y (List.mem_cons_self ..)
    have h2 := hd y (List.mem_cons_self ..)
    omega
theorem gone_at {f : Int → Option Int} {ids : List Int} {k : Nat} {x : Int} (hx : ids[k]? = some x) (hnd : ids.Nodup) : gone f (ids.take k) x = f x := by
  have hn : x ∉ ids.take k := by
    intro hm
    obtain ⟨i, hi, he⟩ := List.getElem_of_mem hm
    rw [List.length_take] at hi
    obtain ⟨hk, hx2⟩ := List.getElem?_eq_some_iff.1 hx
    rw [List.getElem_take] at he
    have := (List.getElem_inj hnd).1 (he.trans hx2.symm)
    omega
  unfold gone; rw [if_neg hn]
theorem imap_gone {f : Int → Option Int} {sz : Nat} (ids : List Int) (k : Nat) (x : Int) (hx : ids[k]? = some x) (hnd : ids.Nodup) (hs : (f x).isSome = true)
    (h : IMap w Mq nq (fun y => if y = x then none else gone f (ids.take k) y) (if (gone f (ids.take k) x).isSome = true then sz - k - 1 else sz - k)) : IMap w Mq nq (gone f (ids.take (k + 1))) (sz - (k + 1)) := by
  have hn : x ∉ ids.take k := by
    intro hm
    obtain ⟨i, hi, he⟩ := List.getElem_of_mem hm
    rw [List.length_take] at hi
    obtain ⟨hk, hx2⟩ := List.getElem?_eq_some_iff.1 hx
    rw [List.getElem_take] at he
    have := (List.getElem_inj hnd).1 (he.trans hx2.symm)
    omega
  have hg : gone f (ids.take k) x = f x := by unfold gone; rw [if_neg hn]
  rw [gone_snoc, hg, if_pos hs] at h
  rw [List.take_add_one, hx]
  exact h
end
set_option maxRecDepth 100000 in
set_option maxHeartbeats 1000000 in
theorem lonce_long (p : Option Addr) (len cap : Nat) (p2 : Option Addr) (len2 cap2 : Nat) (w : World) (hlen : 100 < len) :
    Calls Try.prog 5 #[.slice p len cap, .slice p2 len2 cap2] w fun e w' => e = .returned (.bool true) ∧ Below w.heap.size w w' := by
  have CF := hide (fixed10 w)
  have hl2 : (100 : Int) < ((len : Nat) : Int) := by omega
  go_enter Try.func5, Try.ntmps5
  go_wp2_with (go_at_call 10; refine (unhide CF).mono ?_; rintro e w1 ⟨rfl, hb1⟩)
  go_ret
  exact ⟨rfl, hb1⟩
set_option maxRecDepth 100000 in
set_option maxHeartbeats 8000000 in
theorem lonce_short (p : Option Addr) (len cap : Nat) (p2 : Option Addr) (len2 cap2 : Nat) (z : Nat → Int) (b : Nat → Bool) (w : World) (hlen : len ≤ 100)
    (hz : ∀ i, i < len → 0 ≤ z i ∧ z i ≤ 65535)
    (hc : ∀ i, i < len → ∃ x, p = some x ∧ x.block < w.heap.size ∧ w.cell? (x.add i) = some (.int .u16 (z i)))
    (hd : ∀ i, i < len2 → ∃ x, p2 = some x ∧ x.block < w.heap.size ∧ w.cell? (x.add i) = some (.bool (b i))) :
    Calls Try.prog 5 #[.slice p len cap, .slice p2 len2 cap2] w fun e w' => e = .returned (.bool true) ∧ Below w.heap.size w w' := by
  have CF := hide (fixed10 w)
  obtain ⟨C, hC⟩ : ∃ C, w.heap.size = C := ⟨_, rfl⟩
  rw [hC] at hc hd
  have hc := hide hc
  have hd := hide hd
  have hz := hide hz
  have hmm := @run_makeMap Try.prog
  have hl2 : ((len : Nat) : Int) ≤ 100 := by omega
  go_enter Try.func5, Try.ntmps5
  go_wp2_with (first | (go_at_call 10; refine (unhide CF).mono ?_; rintro e w1 ⟨rfl, hb1⟩) | (go_at_call 11; refine Hid.out ?_))
  refine hide ?_
  rw [hC] at hb1
  refine (new_has w1 hb1 (by have := hb1.size; omega)).mono ?_
  rintro e w2 ⟨B, H, Mb, rfl, v2, b2, -⟩
  obtain ⟨Mq, hMq⟩ : ∃ m, w2.heap.size = m := ⟨_, rfl⟩
  obtain ⟨W2, hW2⟩ : ∃ W2, W2 = w2.alloc (.map #[] 0) := ⟨_, rfl⟩
  have HH0 : Hid (WO C w W2 B H Mb 0 0 [] (fun _ => .slice none 0 0) Mq 0) := hide (by
    have h1 : Wv C w W2 B H Mb 0 0 [] (fun _ => .slice none 0 0) := by rw [hW2]; exact v2.below (below1 _ _)
    have h2 : IMap W2 Mq 0 (fun _ => none) 0 := by rw [hW2, ← hMq]; exact IMap.made w2
    exact ⟨h1, h2, fun hF => by have := v2.has.lt Mq hF; omega, by have := v2.cs; omega⟩)
  have HW2 := hide hW2
  clear v2 b2 hb1 CF hW2
  go_wp2_with fail
  rw [← unhide HW2]
  clear HW2 hmm
  go_loopw [22] (fun d w' => ∃ (i n nq : Nat) (L : List Wh.Item) (sv : Nat → Value), d = .int .i64 (i : Int) ∧ i ≤ len ∧ n ≤ i ∧ nq ≤ i ∧ Hid (WO C w w' B H Mb 0 n L sv Mq nq ∧ Lo i L)) (fun d _ => len - (intOf d).toNat)
  case atStart => exact ⟨0, 0, 0, [], _, rfl, by omega, by omega, by omega, hide ⟨unhide HH0, ⟨(fun x hx => by cases hx), (fun x hx => by cases hx), by decide⟩⟩⟩
  case round =>
    obtain ⟨i, n, nq, L, sv, rfl, hi, hn, hnq, HI⟩ := hrel
    clear HH0
    by_cases hlt : i < len
    · obtain ⟨x, rfl, hx, hc0⟩ := (unhide hc) i hlt
      have e0 : wr.cell? (x.add i) = some (.int .u16 (z i)) := by rw [(unhide HI).1.v.low.cell (p := x.add i) (by unfold Addr.add; split <;> exact hx)]; exact hc0
      obtain ⟨z0, z1⟩ := (unhide hz) i hlt
      clear hc0
      generalize z i = Z at *
      obtain ⟨T, hT⟩ : ∃ T : Nat, Z % 5000 = (T : Int) := ⟨(Z % 5000).toNat, by omega⟩
      have hT2 : T < 5000 := by omega
      have u1 : Z.tmod 5000 = (T : Int) := by rw [Int.tmod_eq_emod_of_nonneg z0]; exact hT
      have u2 : (1 : Int) + (T : Int) = ((T + 1 : Nat) : Int) := by omega
      have hi9 : i ≤ 100 := by omega
      have hid : isI (i : Int) := isI_of (by omega) (by omega)
      have hnew := (unhide HI).2.new
      have CP := hide (wput_ok (unhide HI).1.v (by decide) (by omega) (i : Int) hid hnew (by have := (unhide HI).2.len; omega) (T + 1) (by omega) (by omega))
      rw [Nat.zero_add] at CP
      clear hT
      obtain ⟨TT, hTT⟩ : ∃ TT, T + 1 = TT := ⟨_, rfl⟩
      rw [hTT] at CP u2
      have hTT2 : TT ≤ 5000 := by omega
      clear hTT
      have HID := hide hid
      have HNEW := hide hnew
      clear hid hnew
      go_wp2_with (go_at_call 13; refine Hid.out ?_)
      refine hide ?_
      refine (unhide CP).mono ?_
      rintro e w4 ⟨rfl, sv4, v4, k4⟩
      have m4 : IMap w4 Mq nq (mapOf L) L.length := (unhide HI).1.mp.same (k4.block Mq (unhide HI).1.mp.lt (unhide HI).1.out)
      have o4 : ¬ Foot H Mb sv4 Mq := out_step (unhide HI).1.out (unhide HI).1.mp.lt k4
      have hlo := (unhide HI).2
      have hge := (unhide HI).1.ge
      obtain ⟨w5, q1, q2, q3⟩ := m4.upd (by omega) (i : Int) (TT : Int) (unhide HID) (isI_of (by omega) (by omega))
      have H5 : Hid (WO C w w5 B H Mb 0 (n + 1) (L ++ [((i : Int), TT)]) sv4 Mq (nq + 1) ∧ Lo (i + 1) (L ++ [((i : Int), TT)])) := hide (by
        refine ⟨⟨v4.grown q3 (fun g h1 => by cases h1; exact ⟨o4, hge⟩), ?_, o4, hge⟩, hlo.put hTT2⟩
        rw [mapOf_none (unhide HNEW), mapOf_snoc (unhide HNEW)] at q2
        rw [List.length_append]
        exact q2)
      have H4 := hide (And.intro v4 (And.intro m4 (And.intro o4 (And.intro hlo hge))))
      clear v4 k4 m4 o4 hlo hge q2 q3 CP HI
      by_cases h2 : i < len2
      · obtain ⟨y, rfl, hy, hd0⟩ := (unhide hd) i h2
        have f0 : w4.cell? (y.add i) = some (.bool (b i)) := by rw [(unhide H4).1.low.cell (p := y.add i) (by unfold Addr.add; split <;> exact hy)]; exact hd0
        clear hd0
        cases hb : b i
        · rw [hb] at f0
          clear hb H4
          go_wp2_with fail
          go_roundw
          case rel => exact ⟨i + 1, n + 1, nq + 1, _, _, by go_num, by omega, by omega, by omega, H5⟩
          case measure => simp [intOf]; omega
        · rw [hb] at f0
          have CD := hide (wdrop (unhide H4).1 (by decide) (i : Int) (unhide HID) TT (by simp))
          rw [but_snoc (unhide HNEW)] at CD
          clear hb H5 q1
          go_wp2_with (go_at_call 14; refine Hid.out ?_)
          refine hide ?_
          refine (unhide CD).mono ?_
          rintro e w6 ⟨rfl, sv6, v6, k6⟩
          have CD2 := hide (wdrop_none v6 (i : Int) (unhide HID) (unhide HNEW))
          have H6 := hide (And.intro ((unhide H4).2.1.same (k6.block Mq (unhide H4).2.1.lt (unhide H4).2.2.1)) (out_step (unhide H4).2.2.1 (unhide H4).2.1.lt k6))
          clear v6 k6 CD
          go_wp2_with (go_at_call 14; refine Hid.out ?_)
          refine hide ?_
          refine (unhide CD2).mono ?_
          rintro e w7 ⟨rfl, v7, b7⟩
          have H7 : Hid (WO C w w7 B H Mb 0 (n + 1) L sv6 Mq nq ∧ Lo (i + 1) L) := hide ⟨⟨v7, (unhide H6).1.below b7 (unhide H6).1.lt, (unhide H6).2, (unhide H4).2.2.2.2⟩, (unhide H4).2.2.2.1.stay⟩
          clear v7 b7 CD2 H6 H4
          go_wp2_with fail
          go_roundw
          case rel => exact ⟨i + 1, n + 1, nq, _, _, by go_num, by omega, by omega, by omega, H7⟩
          case measure => simp [intOf]; omega
      · clear H4
        have h3 : decide ((i : Int) < (len2 : Int)) = false := decide_eq_false (by omega)
        go_wp2_with fail
        go_roundw
        case rel => exact ⟨i + 1, n + 1, nq + 1, _, _, by go_num, by omega, by omega, by omega, H5⟩
        case measure => simp [intOf]; omega
    · obtain rfl : i = len := by omega
      have HE : Hid (∃ n nq sv, WO C w wr B H Mb 0 n L sv Mq nq) := hide ⟨n, nq, sv, (unhide HI).1⟩
      have HLo := hide (unhide HI).2
      clear HI hlt hi hn hnq
      have HE2 : Hid (∃ n nq L sv, WO C w wr B H Mb 0 n L sv Mq nq ∧ ∀ x ∈ L, x.2 ≤ 5000) := hide (by
        obtain ⟨n, nq, sv, h⟩ := unhide HE
        exact ⟨n, nq, L, sv, h, (unhide HLo).due⟩)
      clear HE HLo
      go_wp2_with fail
      go_loopw [10] (fun d w' => ∃ t : Nat, d = .int .i64 ((t + 1 : Nat) : Int) ∧ t ≤ 5000 ∧ Hid (∃ n nq L sv, WO C w w' B H Mb t n L sv Mq nq ∧ ∀ x ∈ L, x.2 ≤ 5000)) (fun d _ => 5001 - (intOf d).toNat)
      case atStart => exact ⟨0, rfl, by omega, HE2⟩
      case round =>
        obtain ⟨t, rfl, ht, HI⟩ := hrel
        clear HE2
        obtain ⟨n, nq, L, sv, hwo, hdu⟩ := unhide HI
        clear HI
        obtain ⟨t1, ht1⟩ : ∃ t1, t + 1 = t1 := ⟨_, rfl⟩
        rw [ht1]
        by_cases hlt : t < 5000
        · have CA := hide (wadvance hwo.v (by omega) 1 1 (by decide))
          rw [ran_one, ht1] at CA
          have HW := hide hwo
          have HDU := hide hdu
          have ht2 : t1 ≤ 5000 := by omega
          have HT1 := hide ht1
          clear hwo hdu ht1
          go_wp2_with (go_at_call 16; refine Hid.out ?_)
          obtain ⟨c3, hc3⟩ : ∃ c, wr.heap.size = c := ⟨_, rfl⟩
          refine hide ?_
          refine (unhide CA).mono ?_
          rintro e w3 ⟨v, rfl, r3, sv3, v3, k3, o3⟩
          rw [hc3] at r3
          have hMl := (unhide HW).mp.lt
          have m3 : IMap w3 Mq nq (mapOf L) L.length := (unhide HW).mp.same (k3.block Mq hMl (unhide HW).out)
          have u3 := out_step (unhide HW).out hMl k3
          have hge := (unhide HW).ge
          have hrw := (unhide HW).v.rw
          have hnd : (firedOf t1 L).Nodup := hrw.fresh.filter _
          have hin : ∀ x ∈ firedOf t1 L, isI x ∧ mapOf L x = some (t1 : Int) := fun x hx => by
            obtain ⟨y, hy, rfl⟩ := List.mem_map.1 hx
            obtain ⟨hy1, hy2⟩ := List.mem_filter.1 hy
            exact ⟨hrw.isI y hy1, by rw [mapOf_mem hrw.fresh hy1, of_decide_eq_true hy2]⟩
          have hrl := rest_len t1 L
          have hgm : gone (mapOf L) (firedOf t1 L) = mapOf (restOf t1 L) := gone_mapOf hrw.fresh t1
          have HDR : Hid (∀ x ∈ restOf t1 L, x.2 ≤ 5000) := hide (fun x hx => unhide HDU x (List.mem_filter.1 hx).1)
          have hfl := fired_le t1 L
          have hLl := hrw.len
          have hMc : Mq < c3 := by omega
          generalize firedOf t1 L = F at *
          generalize restOf t1 L = R at *
          obtain ⟨N, hN⟩ : ∃ N, F.length = N := ⟨_, rfl⟩
          obtain ⟨pa, capa, hfa, -⟩ := r3.form
          rw [hN] at hfa hrl hfl
          have HQ := hide (And.intro u3 (And.intro hge (And.intro hnd (And.intro hin (And.intro hrl hgm)))))
          have HNN := hide hN
          have H0 : Hid (IMap w3 Mq nq (gone (mapOf L) (F.take 0)) (L.length - 0) ∧ Wv C w w3 B H Mb t1 n R sv3 ∧ Ir w3 c3 v F) := hide ⟨by rw [List.take_zero, gone_nil]; exact m3, v3, r3⟩
          have hN9 : N ≤ 1024 := by omega
          subst hfa
          clear r3 v3 k3 o3 m3 u3 hge hnd hin hrl hgm hrw hfl hLl hN CA HW HDU hMl hc3
          go_wp2_with fail
          go_loopw [66] (fun d w' => ∃ k : Nat, d = .int .i64 (k : Int) ∧ k ≤ N ∧ Hid (IMap w' Mq nq (gone (mapOf L) (F.take k)) (L.length - k) ∧ Wv C w w' B H Mb t1 n R sv3 ∧ Ir w' c3 (.slice pa N capa) F)) (fun d _ => N - (intOf d).toNat)
          case atStart => exact ⟨0, rfl, by omega, H0⟩
          case round =>
            obtain ⟨k, rfl, hk, HK⟩ := hrel
            clear H0
            by_cases hl : k < N
            · obtain ⟨x, hx⟩ : ∃ x, F[k]? = some x := ⟨F[k]'(by rw [unhide HNN]; exact hl), List.getElem?_eq_getElem _⟩
              obtain ⟨m4, v4, r4⟩ := unhide HK
              obtain ⟨a2, cap2', hf2, hcc⟩ := r4.form
              obtain ⟨ga, hga, hcell⟩ := hcc k x hx
              have hag : pa = some ⟨ga, 0, none⟩ := by cases hf2; exact hga
              subst hag
              have hxm := List.mem_of_getElem? hx
              obtain ⟨hxi, hxf⟩ := (unhide HQ).2.2.2.1 x hxm
              have hga2 := gone_at (f := mapOf L) hx (unhide HQ).2.2.1
              have lk := m4.look x hxi
              rw [hga2, hxf] at lk
              simp only [Option.getD_some] at lk
              obtain ⟨w5, q1, q2, q3⟩ := m4.del x hxi 0
              have H5 : Hid (IMap w5 Mq nq (gone (mapOf L) (F.take (k + 1))) (L.length - (k + 1)) ∧ Wv C w w5 B H Mb t1 n R sv3 ∧ Ir w5 c3 (.slice (some ⟨ga, 0, none⟩) N capa) F) := hide ⟨imap_gone F k x hx (unhide HQ).2.2.1 (by rw [hxf]; rfl) q2, v4.grown q3 (fun g h1 => by cases h1; exact ⟨(unhide HQ).1, (unhide HQ).2.1⟩), World.ownsRow.kept r4 q3 (.inr (fun e => by
                have := (r4.lt Mq e).1
                omega))⟩
              clear hx m4 v4 r4 hf2 hcc hga hxm hxi hxf hga2 q2 q3 HK
              go_wp2
              go_roundw
              case rel => exact ⟨k + 1, by first | rfl | go_num, by omega, H5⟩
              case measure => simp [intOf]; omega
            · have hkl : k = N := by omega
              subst hkl
              have HE3 : Hid (∃ n nq L sv, WO C w wr B H Mb t1 n L sv Mq nq ∧ ∀ x ∈ L, x.2 ≤ 5000) := hide (by
                obtain ⟨m4, v4, r4⟩ := unhide HK
                rw [List.take_of_length_le (by rw [unhide HNN]; exact Nat.le_refl _), (unhide HQ).2.2.2.2.2, (unhide HQ).2.2.2.2.1] at m4
                exact ⟨n, nq, R, sv3, ⟨v4, m4, (unhide HQ).1, (unhide HQ).2.1⟩, unhide HDR⟩)
              clear HK hl hk
              go_wp2
              go_roundw
              case rel => exact ⟨t1, by first | rfl | go_num, by omega, HE3⟩
              case measure => simp [intOf]; omega
        · have htt : t = 5000 := by omega
          subst htt
          subst ht1
          have hL : L = [] := due_none hwo.v.rw hdu
          subst hL
          have CLn := hide (wlen hwo.v)
          have hml := hwo.mp.len
          have HF := hide hwo.v.low
          clear hwo hdu
          go_wp2_with (go_at_call 19; refine (unhide CLn).mono ?_; rintro e w9 ⟨rfl, rfl⟩)
          go_ret
          exact ⟨rfl, by rw [hC]; exact unhide HF⟩
end Go.Proofs.Ytkglaklkbodjkaa
