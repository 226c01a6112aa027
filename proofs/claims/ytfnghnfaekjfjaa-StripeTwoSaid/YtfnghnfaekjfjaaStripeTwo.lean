/-
  PROVED: the law StripeTwo returns true for any number of 8 bits, any two of 16 bits and any of 32 bits. No further conditions.
-/
import Derived.Test.YtfnghnfaekjfjaaStripeTwoR
import Derived.Test.YtfnghnfaekjfjaaStripeCode3
namespace Go.Proofs.Ytfnghnfaekjfjaa

theorem stripeTwo_holds : Rows.StripeTwoSaid := stripeTwo.over Stripe.said
end Go.Proofs.Ytfnghnfaekjfjaa
