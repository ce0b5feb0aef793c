import Derived.Test.YtcpehfjpdegmbaaDoorL8Fixed
import Derived.LaidSub
namespace Go.Proofs.YtcpehfjpdegmbaaDoor
open Go.RowKit
/-- What a row's list gives: the two tables. -/
theorem dtab_of {W : World} {l : List (String × DataW Unit)} (h : laidMet Tryd.prog l W)
    (e : l.filter (fun x => x.1 == "internal/strconv.uint64pow10") = [("internal/strconv.uint64pow10", Lib.tabData .u64 Lib.pow10Tab)])
    (e2 : l.filter (fun x => x.1 == "fusee/dura.names") = [("fusee/dura.names", strData namesL)]) : DTab W := by
  refine ⟨?_, ?_⟩
  · have h2 := laidMet.filter (fun x => x.1 == "internal/strconv.uint64pow10") h
    rw [e] at h2
    exact Lib.tabIs_of_head (rest := []) (show Tryd.prog.globalNamed "internal/strconv.uint64pow10" = some 3 by kernel_rfl) (show (Tryd.prog.globals[3]?).map (·.type) = some 76 by kernel_rfl) Tryd.underlying76 Tryd.underlying52 (by kernel_rfl) (by kernel_rfl) h2
  · have h2 := laidMet.filter (fun x => x.1 == "fusee/dura.names") h
    rw [e2] at h2
    exact strIs_of_head (rest := []) names_named (show (Tryd.prog.globals[0]?).map (·.type) = some 42 by kernel_rfl) Tryd.underlying42 Tryd.underlying9 (by kernel_rfl) (by kernel_rfl) h2
end Go.Proofs.YtcpehfjpdegmbaaDoor
