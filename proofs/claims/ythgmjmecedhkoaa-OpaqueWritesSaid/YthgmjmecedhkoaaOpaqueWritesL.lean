/-
  PROVED: the law OpaqueWrites returns true for any heaps with versions, any number and any writes (at most 30 heaps, of at most 80 cells each, and 40 writes are looked at). No further conditions.
-/
import Derived.Test.YthgmjmecedhkoaaOpaqueWritesR
namespace Go.Proofs.Ythgmjmecedhkoaa

theorem opaqueWrites_holds : Rows.OpaqueWritesSaid := opaqueWrites.over
end Go.Proofs.Ythgmjmecedhkoaa
