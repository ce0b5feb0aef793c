import Derived.Test.YtkglaklkbodjkaaL11Plays
namespace Go.Proofs.Ytkglaklkbodjkaa
open Go.RowKit Kt

theorem lplays11_row (p : Option Addr) (len cap : Nat) (V : Nat → Nat → Value) (which t : Int) (w : World) (h : SRow 2 w p len cap V)
    (hl : ∀ i, i < cap → ∀ j l, j < 2 → leafAt Try.prog 8 57 j = some l → l.is (V i j)) :
    Calls Try.prog 6 #[.slice p len cap, .int .i64 which, .int .i64 t] w fun e w' => e = .returned (.bool true) ∧ Below w.heap.size w w' := by
  by_cases hlen : len ≤ 100
  · obtain ⟨kd, kn, h1, h2⟩ := acts_row h hl
    exact lplays11_short p len cap kd kn which t w hlen h1 h2
  · exact lplays11_long p len cap which t w (by omega)
end Go.Proofs.Ytkglaklkbodjkaa
