/- pid by one weight alone, from equations. -/
import Derived.Test.YtdglobolgdhmoaaPdD
namespace Go.Proofs.Ytdglobolgdhmoaa
set_option linter.unusedSimpArgs false
set_option linter.unusedVariables false
open Go.RowKit
open Fx Pd

section
variable (t k s p : Int) (h : Bool) (u e s2 c : Int) (w : World) (he : sub u t = e) (hs : add s e = s2) (hc : chg h e p = c)
include he hs hc in
theorem next_p : Calls Try.prog 10 #[ofV t k 0 0, stV s p h, .int .i64 u] w fun r w' => r = .returned (.tuple #[stV s2 e true, .int .i64 (bnd (near (mul k e)))]) ∧ Below w.heap.size w w' :=
  next_to t k 0 0 s p h u e s2 _ w he hs (by rw [hc]; exact wnt_p k e s2 c)
include he hs hc in
theorem next_i : Calls Try.prog 10 #[ofV t 0 k 0, stV s p h, .int .i64 u] w fun r w' => r = .returned (.tuple #[stV s2 e true, .int .i64 (bnd (near (mul k s2)))]) ∧ Below w.heap.size w w' :=
  next_to t 0 k 0 s p h u e s2 _ w he hs (by rw [hc]; exact wnt_i k e s2 c)
include he hs hc in
theorem next_d : Calls Try.prog 10 #[ofV t 0 0 k, stV s p h, .int .i64 u] w fun r w' => r = .returned (.tuple #[stV s2 e true, .int .i64 (bnd (near (mul k c)))]) ∧ Below w.heap.size w w' :=
  next_to t 0 0 k s p h u e s2 _ w he hs (by rw [hc]; exact wnt_d k e s2 c)
include he hs hc in
theorem next_z : Calls Try.prog 10 #[ofV t 0 0 0, stV s p h, .int .i64 u] w fun r w' => r = .returned (.tuple #[stV s2 e true, .int .i64 (0)]) ∧ Below w.heap.size w w' :=
  next_to t 0 0 0 s p h u e s2 _ w he hs (by rw [hc]; exact wnt_none e s2 c)
end
end Go.Proofs.Ytdglobolgdhmoaa
