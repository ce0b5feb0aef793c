import Derived.Test.YtihfldjoogaolaaTn
import Derived.Test.YtihfldjoogaolaaTpMath4
namespace Go.Proofs.Ytihfldjoogaolaa
open Go.RowKit

theorem mk_eq (s : Bool) (p : Nat) (a b : Tr) : ∃ l r, mk s p a b = .node p l r := by cases s <;> exact ⟨_, _, rfl⟩

set_option maxHeartbeats 1000000 in
theorem rotate_any (T G P : Nat) (st : St) (w : World) (h : Own w T G P st) (cx : Cx) (s : Bool) (n c : Nat) (A B C : Tr) (hz : Z P st cx (mk s n A (mk s c B C))) :
    Calls Try.prog 36 #[.pointer (some ⟨T, 0, none⟩), .int .i64 n, .int .i64 (sd s)] w fun e w' => e = .returned (.tuple #[]) ∧ Own w' T G P (st.rot n s) ∧ Touch T G w w' := by
  have hP := h.hP
  have c0 := h.slice
  have hn : n ≤ P := hz.nd.bt n (mem_mk.2 (Or.inl rfl))
  have hc : c ≤ P := hz.nd.bt c (mem_mk.2 (Or.inr (Or.inr (mem_mk.2 (Or.inl rfl)))))
  have hb : B.root ≤ P := by
    by_cases e : B.root = 0
    · omega
    · exact hz.nd.bt _ (mem_mk.2 (Or.inr (Or.inr (mem_mk.2 (Or.inr (Or.inl (root_mem e)))))))
  obtain ⟨n0, hu, a1, a2, sA, sM⟩ := sh_mk.1 hz.sh
  obtain ⟨c00, hcu, b1, b2, sB, sC⟩ := sh_mk.1 sM
  rw [mk_root] at a2
  have hup : (st.nd n).up ≤ P := by rw [hu]; exact hz.par_bd
  have hrot : st.rot n s = ((st.join n (!s) B.root).join c s n).join (st.nd n).up (sideOf st n) c := by unfold St.rot; rw [a2, b1]
  have CS := hide (fun m => side_any T G P st (w.drewN m) (h.drew m) n hn hup)
  have CJ := hide (fun (st' : St) (w' : World) (h' : Own w' T G P st') up s n hu hn => join_any T G P st' w' h' up s n hu hn)
  rw [hrot]
  obtain ⟨u, hu'⟩ : ∃ u, (st.nd n).up = u := ⟨_, rfl⟩
  obtain ⟨wh, hwh⟩ : ∃ x, sideOf st n = x := ⟨_, rfl⟩
  obtain ⟨b, hb'⟩ : ∃ x, B.root = x := ⟨_, rfl⟩
  have cn5 := (h.at n hn).2.2.2.2.2.1
  rw [hu', hwh, hb']
  rw [hu'] at cn5 hup
  rw [hwh] at CS
  rw [hb'] at hb b1
  have hO := hide h
  clear h hu hcu a1 b2 sA sM sB sC hu' hwh hb' hrot
  cases s
  · have d1 := ((unhide hO).at n hn).2.2.2.2.2.2.2
    have d2 := ((unhide hO).at c hc).2.2.2.2.2.2.1
    rw [show (true : Bool) = !false from rfl, a2] at d1
    rw [b1] at d2
    rw [show sd false = 0 from rfl]
    clear hz
    go_enter Try.func36, Try.ntmps36
    go_wp2
    go_quiet (first | (go_at_call 35; exact Calls.quiet_of ((unhide CS) _)))
    go_wp2_with (go_at_call 34; refine Hid.out ?_)
    refine hide ?_
    refine ((unhide CJ) st _ ((unhide hO).drew _) n true b hn hb).mono ?_
    rintro e w1 ⟨rfl, o1, t1⟩
    have o1 := hide o1
    go_wp2_with (go_at_call 34; refine Hid.out ?_)
    refine hide ?_
    refine ((unhide CJ) _ _ (unhide o1) c false n hc hn).mono ?_
    rintro e w2 ⟨rfl, o2, t2⟩
    have o2 := hide o2
    go_wp2_with (go_at_call 34; refine Hid.out ?_)
    refine hide ?_
    refine ((unhide CJ) _ _ (unhide o2) u wh c hup hc).mono ?_
    rintro e w3 ⟨rfl, o3, t3⟩
    have o3 := hide o3
    go_wp2
    go_end0
    exact ⟨rfl, unhide o3, (((Touch.refl _ _ _).drew.trans t1).trans t2).trans t3⟩
  · have d1 := ((unhide hO).at n hn).2.2.2.2.2.2.1
    have d2 := ((unhide hO).at c hc).2.2.2.2.2.2.2
    rw [show (false : Bool) = !true from rfl, a2] at d1
    rw [b1] at d2
    rw [show sd true = 1 from rfl]
    clear hz
    go_enter Try.func36, Try.ntmps36
    go_wp2
    go_quiet (first | (go_at_call 35; exact Calls.quiet_of ((unhide CS) _)))
    go_wp2_with (go_at_call 34; refine Hid.out ?_)
    refine hide ?_
    refine ((unhide CJ) st _ ((unhide hO).drew _) n false b hn hb).mono ?_
    rintro e w1 ⟨rfl, o1, t1⟩
    have o1 := hide o1
    go_wp2_with (go_at_call 34; refine Hid.out ?_)
    refine hide ?_
    refine ((unhide CJ) _ _ (unhide o1) c true n hc hn).mono ?_
    rintro e w2 ⟨rfl, o2, t2⟩
    have o2 := hide o2
    go_wp2_with (go_at_call 34; refine Hid.out ?_)
    refine hide ?_
    refine ((unhide CJ) _ _ (unhide o2) u wh c hup hc).mono ?_
    rintro e w3 ⟨rfl, o3, t3⟩
    have o3 := hide o3
    go_wp2
    go_end0
    exact ⟨rfl, unhide o3, (((Touch.refl _ _ _).drew.trans t1).trans t2).trans t3⟩
end Go.Proofs.Ytihfldjoogaolaa
