/-
  PROVED: the law FilterTells returns true for any sleepers, any sleeper, any cells and any writes (at most 20 sleepers of 40 cells and 20 operations, 80 cells and 40 writes are looked at). No further conditions.
-/
import Derived.Test.YtddgdhaioomnnaaGreatFilterTellsR
namespace Go.Proofs.YtddgdhaioomnnaaGreat

theorem filterTells_holds : Rows.FilterTellsSaid := filterTells.over
end Go.Proofs.YtddgdhaioomnnaaGreat
