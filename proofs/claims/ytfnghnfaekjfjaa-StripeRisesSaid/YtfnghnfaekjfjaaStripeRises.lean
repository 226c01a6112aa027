/-
  PROVED: the law StripeRises returns true for any slice of records, any two whole numbers of 64 bits and any slice of whole numbers. No further conditions.
-/
import Derived.Test.YtfnghnfaekjfjaaStripeRisesR
import Derived.Test.YtfnghnfaekjfjaaStripeCode3
namespace Go.Proofs.Ytfnghnfaekjfjaa

theorem stripeRises_holds : Rows.StripeRisesSaid := stripeRises.over Stripe.said
end Go.Proofs.Ytfnghnfaekjfjaa
