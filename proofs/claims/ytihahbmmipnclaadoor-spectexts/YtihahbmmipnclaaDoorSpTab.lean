import Derived.Test.YtihahbmmipnclaaDoorSp6
import Derived.LaidSub
namespace Go.Proofs.YtihahbmmipnclaaDoor
open Go.RowKit

/-- What a row's list gives: the table of powers. -/
theorem tab_of {W : World} {l : List (String × DataW Unit)} (h : laidMet Tryd.prog l W) (e : l.filter (fun x => x.1 == "internal/strconv.uint64pow10") = [("internal/strconv.uint64pow10", Lib.tabData .u64 Lib.pow10Tab)]) : Tab W := by
  have h2 := laidMet.filter (fun x => x.1 == "internal/strconv.uint64pow10") h
  rw [e] at h2
  exact Lib.tabIs_of_head (rest := []) (show Tryd.prog.globalNamed "internal/strconv.uint64pow10" = some 1 by kernel_rfl) (show (Tryd.prog.globals[1]?).map (·.type) = some 68 by kernel_rfl) Tryd.underlying68 Tryd.underlying42 (by kernel_rfl) (by kernel_rfl) h2
theorem bnd_of {W : World} (h : W.ShapedOpen Tryd.prog) : Bnd W := by
  obtain ⟨m, hm⟩ := Tryd.laysM145.s1_3 W h
  have hm' : W.cell? ⟨0, 0, none⟩ = some (.int .i64 m) := hm
  have hlt : 0 < W.heap.size := by
    by_cases h' : 0 < W.heap.size
    · exact h'
    · simp [World.cell?, Array.getElem?_eq_none (Nat.le_of_not_lt h')] at hm'
  exact ⟨hlt, hlt, m, hm'⟩
end Go.Proofs.YtihahbmmipnclaaDoor
