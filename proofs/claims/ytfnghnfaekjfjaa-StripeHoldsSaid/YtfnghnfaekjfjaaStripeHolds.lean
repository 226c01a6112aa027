/-
  PROVED: the law StripeHolds returns true for any slice of records, any two whole numbers of 64 bits and any slice of whole numbers. No further conditions.
-/
import Derived.Test.YtfnghnfaekjfjaaStripeHoldsR
import Derived.Test.YtfnghnfaekjfjaaStripeCode3
namespace Go.Proofs.Ytfnghnfaekjfjaa

theorem stripeHolds_holds : Rows.StripeHoldsSaid := stripeHolds.over Stripe.said
end Go.Proofs.Ytfnghnfaekjfjaa
