/-
  PROVED: the law OpaqueNone returns true for any heaps with versions and any number (at most 30 heaps, of at most 80 cells each, are looked at). No further conditions.
-/
import Derived.Test.YthgmjmecedhkoaaOpaqueNoneR
namespace Go.Proofs.Ythgmjmecedhkoaa

theorem opaqueNone_holds : Rows.OpaqueNoneSaid := opaqueNone.over
end Go.Proofs.Ythgmjmecedhkoaa
