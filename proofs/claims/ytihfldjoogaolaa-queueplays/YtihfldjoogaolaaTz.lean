import Derived.Test.YtihfldjoogaolaaTa
import Derived.Test.YtihfldjoogaolaaTpMath11
namespace Go.Proofs.Ytihfldjoogaolaa
open Go.RowKit

theorem Touch.low {T G B : Nat} {w a b : World} (hb : Below B w a) (h : Touch T G a b) (hT : B ≤ T) (hG : B ≤ G) (hs : B ≤ a.heap.size) : Below B w b :=
  hb.trans ⟨h.os, h.tape, h.output, h.size, fun k hk => h.block k (Nat.lt_of_lt_of_le hk hs) (by omega) (by omega)⟩

end Go.Proofs.Ytihfldjoogaolaa
