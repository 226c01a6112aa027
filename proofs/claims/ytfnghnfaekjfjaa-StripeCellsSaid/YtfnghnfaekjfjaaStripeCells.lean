/-
  PROVED: the law StripeCells returns true for any slice of records, any number of 16 bits and any slice of such numbers. No further conditions.
-/
import Derived.Test.YtfnghnfaekjfjaaStripeCellsR
import Derived.Test.YtfnghnfaekjfjaaStripeCode3
namespace Go.Proofs.Ytfnghnfaekjfjaa

theorem stripeCells_holds : Rows.StripeCellsSaid := stripeCells.over Stripe.said
end Go.Proofs.Ytfnghnfaekjfjaa
