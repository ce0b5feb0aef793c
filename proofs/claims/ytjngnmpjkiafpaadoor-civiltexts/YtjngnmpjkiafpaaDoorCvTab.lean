import Derived.Test.YtjngnmpjkiafpaaDoorL7Laws
import Derived.LaidSub
namespace Go.Proofs.YtjngnmpjkiafpaaDoor
open Go.RowKit Cv

/-- What a row's list gives: the two tables. -/
theorem ctab_of {W : World} {l : List (String × DataW Unit)} (h : laidMet Tryd.prog l W)
    (e : l.filter (fun x => x.1 == "internal/strconv.uint64pow10") = [("internal/strconv.uint64pow10", Lib.tabData .u64 Lib.pow10Tab)])
    (e2 : l.filter (fun x => x.1 == "fusee/civil.monthDays") = [("fusee/civil.monthDays", Lib.tabData .i64 mdTab)]) : CTab W := by
  refine ⟨?_, ?_⟩
  · have h2 := laidMet.filter (fun x => x.1 == "internal/strconv.uint64pow10") h
    rw [e] at h2
    exact Lib.tabIs_of_head (rest := []) (show Tryd.prog.globalNamed "internal/strconv.uint64pow10" = some 3 by kernel_rfl) (show (Tryd.prog.globals[3]?).map (·.type) = some 99 by kernel_rfl) Tryd.underlying99 Tryd.underlying74 (by kernel_rfl) (by kernel_rfl) h2
  · have h2 := laidMet.filter (fun x => x.1 == "fusee/civil.monthDays") h
    rw [e2] at h2
    exact Lib.tabIs_of_head (rest := []) md_named (show (Tryd.prog.globals[0]?).map (·.type) = some 47 by kernel_rfl) Tryd.underlying47 Tryd.underlying3 (by kernel_rfl) (by kernel_rfl) h2
end Go.Proofs.YtjngnmpjkiafpaaDoor
