/- What any policy wants, and carries on, as plain mathematics. -/
import Derived.Test.YtpgjjdpblilljaaTkA
import Derived.Test.YtpgjjdpblilljaaStA
import Derived.Test.YtpgjjdpblilljaaPdA
import Derived.Test.YtpgjjdpblilljaaSdA
namespace Go.Proofs.Ytpgjjdpblilljaa
set_option linter.unusedSimpArgs false
set_option linter.unusedVariables false
namespace Plc
open Evn

/-- A state: the sum, the error ahead, is there one. -/
abbrev Sta := Int × Int × Bool
def rep (n : Int) : Int := max 0 (min n 1000)
def pdE (p : Pl) (u : Int) : Int := Fx.sub u p.target
def pdS (p : Pl) (s : Sta) (u : Int) : Int := Fx.add s.1 (pdE p u)
/-- How many of the kind's own. -/
def own (p : Pl) (s : Sta) (c u t : Int) : Int :=
  if p.kind = 1 then Tk.wt p.target c u
  else if p.kind = 2 then Stp.wnt p.bands c u
  else if p.kind = 3 then c + Pd.wnt p.kp p.ki p.kd (pdE p u) (pdS p s u) (Pd.chg s.2.2 (pdE p u) s.2.1)
  else if p.kind = 4 then Sdl.swn p.slots (Sdl.tod p.period t)
  else c
def many (p : Pl) (s : Sta) (cur u t : Int) : Int := rep (own p s (rep cur) u t)
def carry (p : Pl) (s : Sta) (u : Int) : Sta := if p.kind = 3 then (pdS p s u, pdE p u, true) else s
theorem rep_le (n : Int) : 0 ≤ rep n ∧ rep n ≤ 1000 := by unfold rep; omega
theorem rep_id {n : Int} (h1 : 0 ≤ n) (h2 : n ≤ 1000) : rep n = n := by unfold rep; omega
theorem rep_rep (n : Int) : rep (rep n) = rep n := rep_id (rep_le n).1 (rep_le n).2
theorem many_le (p : Pl) (s : Sta) (cur u t : Int) : 0 ≤ many p s cur u t ∧ many p s cur u t ≤ 1000 := rep_le _
theorem many_rep (p : Pl) (s : Sta) (cur u t : Int) : many p s (rep cur) u t = many p s cur u t := by unfold many; rw [rep_rep]
theorem many_zero {p : Pl} (h : p.kind = 0) (s : Sta) (cur u t : Int) : many p s cur u t = rep cur := by
  unfold many own
  rw [h]
  simp [rep_rep]
theorem carry_else {p : Pl} (h : p.kind ≠ 3) (s : Sta) (u : Int) : carry p s u = s := by unfold carry; rw [if_neg h]
/-- The time alters nothing of all kinds but one; the load, and how many there are, nothing of that one. -/
theorem many_time {p : Pl} (h : p.kind ≠ 4) (s : Sta) (cur u t t' : Int) : many p s cur u t = many p s cur u t' := by
  unfold many own
  rw [if_neg h, if_neg h]
theorem many_sched {p : Pl} (h : p.kind = 4) (s s' : Sta) (cur cur' u u' t : Int) : many p s cur u t = many p s' cur' u' t := by
  unfold many own
  rw [h]
  simp
end Plc
end Go.Proofs.Ytpgjjdpblilljaa
