import Derived.Test.YtcbdbkdnindaoaaDoorMk6
import Derived.LaidSub
import Derived.Stop.LaidErr
namespace Go.Proofs.YtcbdbkdnindaoaaDoor
open Go.RowKit

theorem err_star : "*" ++ "errors.errorString" = "*errors.errorString" := by decide
theorem err_row (u : TypeId) (h : Tryd.prog.typeName? 3 u = some "*errors.errorString") : u = 91 :=
  typeName_ptr_named (nm := "errors.errorString") (by rw [err_star]; kernel_rfl) (by kernel_rfl) (by decide) u (by rw [err_star]; exact h)
theorem mtab_of {W : World} {l : List (String × DataW Unit)} (h : laidMet Tryd.prog l W) (hsh : W.ShapedOpen Tryd.prog)
    (e : l.filter (fun x => x.1 == "strconv.ErrSyntax") = [("strconv.ErrSyntax", .iface "*errors.errorString" (.ptr (.agg [.lit (.string [105, 110, 118, 97, 108, 105, 100, 32, 115, 121, 110, 116, 97, 120])])))])
    (e2 : l.filter (fun x => x.1 == "strconv.ErrRange") = [("strconv.ErrRange", .iface "*errors.errorString" (.ptr (.agg [.lit (.string [118, 97, 108, 117, 101, 32, 111, 117, 116, 32, 111, 102, 32, 114, 97, 110, 103, 101])])))]) : MTab W := by
  refine ⟨Tryd.laysM145.s1_3 W hsh, ?_, ?_⟩
  · have h2 := laidMet.filter (fun x => x.1 == "strconv.ErrSyntax") h
    rw [e] at h2
    obtain ⟨a, s, hv, _⟩ := laid_sentinel (g := 2) (ti := 56) (tp := 91) (te := 93) (ts := 9) h2 (by kernel_rfl) (by kernel_rfl) Tryd.underlying56 err_row Tryd.underlying91 Tryd.underlying93 rfl rfl Tryd.underlying9 (by kernel_rfl) (by kernel_rfl)
    refine ⟨.iface 91 (.pointer (some a)), ?_, .inr ⟨_, _, rfl⟩⟩
    have := World.var?_cell (P := Tryd.prog) (n := "strconv.ErrSyntax") (g := 2) (by kernel_rfl) hv 0
    simpa using this
  · have h2 := laidMet.filter (fun x => x.1 == "strconv.ErrRange") h
    rw [e2] at h2
    obtain ⟨a, s, hv, _⟩ := laid_sentinel (g := 3) (ti := 56) (tp := 91) (te := 93) (ts := 9) h2 (by kernel_rfl) (by kernel_rfl) Tryd.underlying56 err_row Tryd.underlying91 Tryd.underlying93 rfl rfl Tryd.underlying9 (by kernel_rfl) (by kernel_rfl)
    refine ⟨.iface 91 (.pointer (some a)), ?_, .inr ⟨_, _, rfl⟩⟩
    have := World.var?_cell (P := Tryd.prog) (n := "strconv.ErrRange") (g := 3) (by kernel_rfl) hv 0
    simpa using this
end Go.Proofs.YtcbdbkdnindaoaaDoor
