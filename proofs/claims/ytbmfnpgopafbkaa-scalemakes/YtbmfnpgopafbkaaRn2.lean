import Derived.Test.YtbmfnpgopafbkaaRn
namespace Go.Proofs.Ytbmfnpgopafbkaa
open Go.RowKit Kt

theorem intInfo : (Try.prog.info? 3).map (fun i => (i.zero, i.size, i.bytes)) = some (some (.int .i64 0), 1, 8) := by kernel_rfl
/-- A value that owns a row, not nil, laid open. -/
theorem IRow.of_own {w : World} {B n : Nat} {v : Value} {ds : List Int} (hl : ds.length = n) (h : w.ownsRow B 3 1 v n (ds.map (Value.int .i64))) (hv : v ≠ .slice none 0 0) : ∃ g cap, v = .slice (some ⟨g, 0, none⟩) n cap ∧ IRow w B g n cap ds := by
  rcases h.2 with ⟨rfl, _⟩ | ⟨g, cap, cur, rfl, _⟩
  · exact absurd rfl hv
  · exact ⟨g, cap, rfl, hl, h⟩
theorem ints_one (ds : List Int) : ∀ u ∈ ds.map (Value.int .i64), u.oneCell' = true := by
  intro u hu
  obtain ⟨x, _, rfl⟩ := List.mem_map.1 hu
  rfl

set_option maxRecDepth 100000 in
set_option maxHeartbeats 1000000 in
theorem rhalf_any (B g cap : Nat) (ds : List Int) (w : World) (hrow : IRow w B g 9 cap ds) (hdig : Dig 9 ds) :
    Calls Try.prog 36 #[.slice (some ⟨g, 0, none⟩) 9 cap] w fun e w' => ∃ g' cap' es, e = .returned (.slice (some ⟨g', 0, none⟩) 9 cap') ∧ IRow w' w.heap.size g' 9 cap' es ∧ Dig 9 es ∧ val es = val ds / 2 ∧ Below w.heap.size w w' := by
  obtain ⟨i0, hi, hz0, hz1, hz2⟩ := info_parts intInfo
  have hl := (hrow.2.alloc (.cells #[] 3)).cells (g := g) rfl
  have hmade := World.ownsRow_made (base := w.heap.size) (e := 3) (size := 1) w #[] 0 (Nat.le_refl _) (Nat.zero_le _) rfl
  have hb0 : Below w.heap.size w (w.alloc (.cells #[] 3)) := (Below.refl _ _).alloc (Nat.le_refl _) _
  obtain ⟨b, hb⟩ : ∃ b, w.heap.size = b := ⟨_, rfl⟩
  rw [hb] at hmade hb0
  have HL := hide hl
  have HM := hide hmade
  clear hl hmade
  go_enter Try.func36, Try.ntmps36
  go_wp2_with (at_builtin; refine wpList_append_own _ rfl _ _ 48 rfl b 3 i0 (.int .i64 0) 1 8 Try.underlying48 hi hz0 hz1 hz2 rfl (by decide) _ _ _ rfl (unhide HM) ⟨g, 0, none⟩ 9 cap (ds.map (Value.int .i64)) rfl ?c0 (unhide HL) (ints_one ds) ?c3 ?c4 ?c5 ?_)
  case c0 => simp [hrow.1]
  case c3 => unfold maxLen; omega
  case c4 => omega
  case c5 => simp; omega
  · intro v' w1 hown hgrow hnil
    obtain ⟨g', cap', rfl, hrow'⟩ := IRow.of_own (by rw [hrow.1]) hown hnil
    have hb1 : Below b w w1 := hb0.grown hgrow (by simp; omega) (fun k hk => by simp [Value.ownBlock] at hk; omega)
    clear hown hgrow hnil
    go_wp2
    go_loopw [11] (fun t11 wr => ∃ (i : Nat) (es : List Int), i ≤ 9 ∧ t11 = .int .i64 i ∧ IRow wr b g' 9 cap' es ∧ Below b w wr ∧ Hid (Halve ds i es)) (fun t11 _ => 9 - (intOf t11).toNat)
    case atStart => exact ⟨0, ds, by omega, rfl, hrow', hb1, hide (Halve.first ds hdig)⟩
    case round =>
      obtain ⟨i, es, hi9, rfl, hrw, hbel, hh⟩ := hrel
      have hbg := hrw.base
      by_cases hlt : i < 9
      · have hcell := hrw.cell i hlt
        have hfree := hrw.free i
        have H := unhide hh
        have hs := H.same i (Nat.le_refl _)
        have hdd := H.dig.2 i
        obtain ⟨d, hd⟩ : ∃ d, ds.getD i 0 = d := ⟨_, rfl⟩
        rw [hs, hd] at hcell hdd
        have e1 : d.tmod 2 = d % 2 := Int.tmod_eq_emod_of_nonneg hdd.1
        have e2 : d.tdiv 2 = d / 2 := Int.tdiv_eq_ediv_of_nonneg hdd.1
        clear hs
        by_cases h0 : i = 0
        · subst h0
          have HP := hide (H.plain hdig.1 hlt d hd (.inl rfl))
          clear H hd
          go_wp2
          go_roundw
          case rel => exact ⟨1, _, by omega, rfl, hrw.put _ _, hbel.setCell hbg.1 _, HP⟩
          case measure => simp [intOf]
        · by_cases h1 : d % 2 = 1
          · have HP := hide (H.odd hdig.1 hlt d hd (by omega) h1)
            have hsm := H.small (by omega)
            have hd1 := H.dig.2 (i - 1)
            have hcell1 := (hrw.put i (d / 2)).cell (i - 1) (by omega)
            have hfree1 := (hrw.put i (d / 2)).free (i - 1)
            rw [Kt.getD_set_ne _ _ (by omega)] at hcell1
            obtain ⟨x, hx⟩ : ∃ x, es.getD (i - 1) 0 = x := ⟨_, rfl⟩
            rw [hx] at hcell1 hsm hd1 HP
            clear H hd hx
            go_wp2
            go_roundw
            case rel => exact ⟨i + 1, _, by omega, by go_num, (hrw.put _ _).put _ _, (hbel.setCell hbg.1 _).setCell hbg.1 _, HP⟩
            case measure => simp [intOf]; omega
          · have HP := hide (H.plain hdig.1 hlt d hd (.inr (by omega)))
            clear H hd
            have e3 : (d % 2 == 1) = false := by simp; omega
            go_wp2
            go_roundw
            case rel => exact ⟨i + 1, _, by omega, by go_num, hrw.put _ _, hbel.setCell hbg.1 _, HP⟩
            case measure => simp [intOf]; omega
      · obtain rfl : i = 9 := by omega
        go_wp2
        go_ret
        rw [hb]
        have H := unhide hh
        exact ⟨g', cap', es, rfl, hrw, H.dig, H.done hdig.1, hbel⟩
end Go.Proofs.Ytbmfnpgopafbkaa
