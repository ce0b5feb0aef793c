/- An engine in plain numbers: processors, each with its timers in order, its alarm and its marks; a clock; what each step comes to. -/
import Derived.Test.YtjjdkkdnlnbedaaGreatBaE
import Derived.Test.YtjjdkkdnlnbedaaGreatCkA
import Derived.Test.YtjjdkkdnlnbedaaGreatDeA
import Derived.Test.YtjjdkkdnlnbedaaGreatMkB
namespace Go.Proofs.YtjjdkkdnlnbedaaGreat
open Kt Qu

/-- A processor. -/
structure Cp where
  L : List Tmr
  on : Bool
  arm : Option Int
  la : Bool
  ra : Bool
  ki : Bool
def cp0 : Cp := ⟨[], false, none, false, false, false⟩
/-- An engine: its clock, how many processors, the device's distances, who is online. -/
structure En where
  z : KS
  n : Nat
  le : Int
  gr : Int
  M : Nat
  cp : Nat → Cp
/-- A timer that fired. -/
structure Frd where
  id : Int
  clock : Int
  cpu : Int
  mono : Int
  rd : Int
def maxT : Int := 4611686018427387903
/-- What the clocks read, and how far they are ahead of Mono. -/
def KS.rd (z : KS) : Nat → Int := tri z.m z.v z.q
def KS.off (z : KS) : Nat → Int := tri 0 (z.v - z.m) (z.q - z.m)
/-- A timer comes behind all that are ahead of it. -/
def insA (t : Tmr) : List Tmr → List Tmr
  | [] => [t]
  | y :: r => if befB y t = true then y :: insA t r else t :: y :: r
def En.set (e : En) (i : Nat) (c : Cp) : En := { e with cp := fun j => if j = i then c else e.cp j }
def En.ahead (e : En) (c : Cp) : Int := mnF e.z.off (!c.ra) c.L maxT
/-- An alarm is set, if that is sooner. -/
def armTo (arm : Option Int) (a : Int) : Option Int := match arm with
  | none => some a
  | some t => if t ≤ a then some t else some a
def En.look (e : En) (c : Cp) : Cp := if neverB (e.ahead c) = true then c else { c with arm := armTo c.arm (aimZ e.le e.gr e.z.m (e.ahead c)) }
def En.on (e : En) (cpu : Int) : Bool := Mk.hasB e.M cpu
def En.hasId (e : En) (id : Int) (i : Nat) : Bool := decide (id ∈ idsT (e.cp i).L)
/-- On which processor an ID is. -/
def En.wher (e : En) (id : Int) : Option Nat := (List.range e.n).find? (e.hasId id)
def lenTo (e : En) : Nat → Nat
  | 0 => 0
  | i + 1 => lenTo e i + (e.cp i).L.length
def En.len (e : En) : Nat := lenTo e e.n
def En.start (e : En) (cpu : Int) (t : Tmr) : Int × En :=
  if e.on cpu = false ∨ t.clock < 0 ∨ 3 ≤ t.clock ∨ t.hard < t.soft then (2, e)
  else if e.wher t.id ≠ none then (9, e)
  else if 64 ≤ e.len then (3, e)
  else (0, e.set cpu.toNat (e.look { e.cp cpu.toNat with L := insA t (e.cp cpu.toNat).L }))
def En.cancel (e : En) (id : Int) : Int × En := match e.wher id with
  | none => (7, e)
  | some i => (0, e.set i { e.cp i with L := (e.cp i).L.filter fun t => decide (t.id ≠ id) })
/-- Time goes by. -/
def passC (m : Int) (c : Cp) : Cp := match c.arm with
  | none => c
  | some t => if t ≤ m then { c with arm := none, la := true } else c
def En.adv (e : En) (k : Int) : Int × En :=
  if (act0 k e.z).1 = 0 then (0, { e with z := (act0 k e.z).2, cp := fun i => if e.M.testBit i = true then passC (act0 k e.z).2.m (e.cp i) else e.cp i }) else ((act0 k e.z).1, e)
/-- What fires on processor i, of those that are, or aren't, lazy. -/
def En.firL (e : En) (i : Nat) (lz : Bool) : List Tmr := (e.cp i).L.filter (firB e.z.rd lz)
def frdOf (z : KS) (i : Nat) (t : Tmr) : Frd := ⟨t.id, t.clock, i, z.m, z.rd t.clock.toNat⟩
def En.fired (e : En) (i : Nat) (lz : Bool) : List Frd := (e.firL i lz).map (frdOf e.z i)
def En.rest (e : En) (i : Nat) (lz : Bool) : List Tmr := (e.cp i).L.filter fun t => !firB e.z.rd lz t
def En.irq1 (e : En) (i : Nat) : Cp := { e.cp i with la := false, L := e.rest i false, ra := (e.cp i).ra || decide (0 < ((e.rest i false).filter (firB e.z.rd true)).length) }
def En.irq (e : En) (i : Nat) : En := e.set i (e.look (e.irq1 i))
def En.soft (e : En) (i : Nat) : En := e.set i (e.look { e.cp i with ra := false, L := e.rest i true })
def En.kick (e : En) (i : Nat) : En := e.set i (e.look { e.cp i with ki := false })
/-- The calls of these three: what fires, the error, the engine behind it. -/
def En.doKick (e : En) (cpu : Int) : List Frd × Int × En :=
  if e.on cpu = false then ([], 2, e) else if (e.cp cpu.toNat).ki = false then ([], 8, e) else ([], 0, e.kick cpu.toNat)
def En.doIrq (e : En) (cpu : Int) : List Frd × Int × En :=
  if e.on cpu = false then ([], 2, e) else if (e.cp cpu.toNat).la = false then ([], 8, e) else (e.fired cpu.toNat false, 0, e.irq cpu.toNat)
def En.doSoft (e : En) (cpu : Int) : List Frd × Int × En :=
  if e.on cpu = false then ([], 2, e) else if (e.cp cpu.toNat).ra = false then ([], 8, e) else (e.fired cpu.toNat true, 0, e.soft cpu.toNat)
/-- The clock has changed: if its generation did all that are online are kicked. -/
def En.change (e : En) (r : Int × KS) : Int × En :=
  (r.1, { e with z := r.2, cp := fun i => if r.2.n ≠ e.z.n ∧ e.M.testBit i = true then { e.cp i with ki := true } else e.cp i })
/-- A processor goes. -/
def En.leave (e : En) (cpu : Int) : Int × En :=
  if e.on cpu = false then (2, e)
  else if (Mk.nextL (Mk.listOf (Mk.woN e.M cpu)) cpu).2 = false then (8, e)
  else
    let j := (Mk.nextL (Mk.listOf (Mk.woN e.M cpu)) cpu).1.toNat
    let e1 : En := { e with M := Mk.woN e.M cpu, cp := fun i => if i = cpu.toNat then cp0 else if i = j then { e.cp j with L := (e.cp cpu.toNat).L.foldl (fun l t => insA t l) (e.cp j).L } else e.cp i }
    (0, e1.set j (e1.look (e1.cp j)))
def En.enter (e : En) (cpu : Int) : Int × En :=
  if cpu < 0 ∨ (e.n : Int) ≤ cpu then (2, e) else if e.on cpu = true then (8, e) else (0, { e with M := e.M ||| Mk.oneN cpu, cp := fun i => if i = cpu.toNat then { e.cp i with on := true } else e.cp i })
/-- What Settle does next, if anything is to be done. -/
def En.next1 (e : En) : Option (List Frd × En) := match (Mk.listOf e.M).find? (fun i => (e.cp i).ki) with
  | some i => some ([], e.kick i)
  | none => match (Mk.listOf e.M).find? (fun i => (e.cp i).la) with
    | some i => some (e.fired i false, e.irq i)
    | none => match (Mk.listOf e.M).find? (fun i => (e.cp i).ra) with
      | some i => some (e.fired i true, e.soft i)
      | none => none
def settleF : Nat → En → List Frd × En
  | 0, e => ([], e)
  | k + 1, e => match e.next1 with
    | none => ([], e)
    | some (l, e1) => (l ++ (settleF k e1).1, (settleF k e1).2)
def En.settle (e : En) : List Frd × En := settleF 65 e
/-- A step. -/
structure Stp where
  kind : Int
  cpu : Int
  n : Int
  t : Tmr
def En.step (e : En) (s : Stp) : List Frd × Int × En :=
  if s.kind = 1 then ([], e.start s.cpu s.t)
  else if s.kind = 2 then ([], e.cancel s.n)
  else if s.kind = 3 then ([], e.adv s.n)
  else if s.kind = 4 then e.doIrq s.cpu
  else if s.kind = 5 then e.doSoft s.cpu
  else if s.kind = 6 then e.doKick s.cpu
  else if s.kind = 7 then ([], e.change (actTo s.n e.z))
  else if s.kind = 8 then ([], e.change (act3 e.z))
  else if s.kind = 9 then ([], e.change (act4 e.z))
  else if s.kind = 10 then ([], e.leave s.cpu)
  else if s.kind = 11 then ([], e.enter s.cpu)
  else if s.kind = 12 then (e.settle.1, 0, e.settle.2)
  else ([], 1, e)
def enNew (n : Nat) (le gr : Int) : En := ⟨⟨0, 0, 0, 0, false, 0⟩, n, le, gr, 2 ^ n - 1, fun _ => ⟨[], true, none, false, false, false⟩⟩
end Go.Proofs.YtjjdkkdnlnbedaaGreat
