/-
  PROVED: the law AttemptAlone returns true for any steps, any two numbers, any cells and any numbers of 32 bits (at most 40 steps, of at most 20 operations each, 64 cells and 16 numbers are looked at). No further conditions.
-/
import Derived.Test.YtadofonlkjkcmaaGreatAttemptAloneR
namespace Go.Proofs.YtadofonlkjkcmaaGreat

theorem attemptAlone_holds : Rows.AttemptAloneSaid := attemptAlone.over
end Go.Proofs.YtadofonlkjkcmaaGreat
