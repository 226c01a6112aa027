/-
  PROVED: the law StripeTells returns true for any slice of records, any two whole numbers of 64 bits and any slice of whole numbers. No further conditions.
-/
import Derived.Test.YtfnghnfaekjfjaaStripeTellsR
import Derived.Test.YtfnghnfaekjfjaaStripeCode3
namespace Go.Proofs.Ytfnghnfaekjfjaa

theorem stripeTells_holds : Rows.StripeTellsSaid := stripeTells.over Stripe.said
end Go.Proofs.Ytfnghnfaekjfjaa
