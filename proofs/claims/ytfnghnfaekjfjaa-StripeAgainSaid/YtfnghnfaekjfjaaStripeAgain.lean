/-
  PROVED: the law StripeAgain returns true for any slice of records, any whole number of 64 bits and any two slices of whole numbers. No further conditions.
-/
import Derived.Test.YtfnghnfaekjfjaaStripeAgainR
import Derived.Test.YtfnghnfaekjfjaaStripeCode3
namespace Go.Proofs.Ytfnghnfaekjfjaa

theorem stripeAgain_holds : Rows.StripeAgainSaid := stripeAgain.over Stripe.said
end Go.Proofs.Ytfnghnfaekjfjaa
