/-
  PROVED: the law CodeOne returns true for any step (of at most 20 operations). No further conditions.
-/
import Derived.Test.YtcjooibadbhjaaaCodeAwake
import Derived.Test.YtcjooibadbhjaaaCodeOneW0a
import Derived.Test.YtcjooibadbhjaaaCodeOneW0b
import Derived.Test.YtcjooibadbhjaaaCodeOneW1a
import Derived.Test.YtcjooibadbhjaaaCodeOneW1b
import Derived.Test.YtcjooibadbhjaaaCodeOneW2a
import Derived.Test.YtcjooibadbhjaaaCodeOneW2b
import Derived.Test.YtcjooibadbhjaaaCodeOpen
import Derived.WalkKit
import Derived.ProofKit
import Derived.OpenShut
import Derived.ChangeOld
import Derived.Below
import Derived.Carry
import Derived.Test.YtcjooibadbhjaaaCodeCode3
namespace Go.Proofs.Ytcjooibadbhjaaa.Code
open Go.ChangeShapes Go.WideShapes Go.ChangeAt Go.RowKit Mem

set_option maxRecDepth 100000 in
set_option maxHeartbeats 2000000 in
theorem one_walk (S : Said) (r : Raw) (w : World) (hg : Rd w 2 r.T r.n (Term.ops r.s.t) ∧ r.n ≤ r.c ∧ r.c ≤ 9223372036854775807) :
    Calls Try.prog 8 #[.agg #[.int .i64 r.s.d, .int .i64 r.s.a, .int .i64 r.s.b, .slice r.T r.n r.c]] w (RetB w true) := by
  obtain ⟨⟨dd, aa, b_, t⟩, T, n, c⟩ := r
  obtain ⟨hr, hnc, hc⟩ := hg
  simp only at hr hnc hc
  by_cases h20 : 20 < n
  · have HS := Lib.hid S
    have mn : n ≤ 9223372036854775807 := Nat.le_trans hnc hc
    have bb : Hid (Below w.heap.size w (w.alloc (.cells #[.int .i64 dd, .int .i64 aa, .int .i64 b_, .slice T n c] 37))) := Lib.hid (bl_alloc (Below.refl _ _) _)
    clear hr S
    go_enter Try.func8, Try.ntmps8
    go_wp2_with fail
    refine (awake_any HS.out _).mono ?_
    rintro e w1 ⟨rfl, b1⟩
    go_wp2
    go_ret
    exact ⟨rfl, bl_trans bb.out b1⟩
  by_cases h0 : Term.checkS t = 0
  · by_cases hq : (Term.cellsS t).length = 0
    · rcases Nat.eq_zero_or_pos n with hn | hn
      · exact one_walk2a S dd aa b_ t T n c w hr hnc hc (by omega) hn h0 _ rfl hq
      · exact one_walk2b S dd aa b_ t T n c w hr hnc hc (by omega) hn h0 _ rfl hq
    · rcases Nat.eq_zero_or_pos n with hn | hn
      · exact one_walk1a S dd aa b_ t T n c w hr hnc hc (by omega) hn h0 _ _ rfl rfl hq
      · exact one_walk1b S dd aa b_ t T n c w hr hnc hc (by omega) hn h0 _ _ rfl rfl hq
  · rcases Nat.eq_zero_or_pos n with hn | hn
    · exact one_walk0a S dd aa b_ t T n c w hr hnc hc (by omega) hn _ rfl h0
    · exact one_walk0b S dd aa b_ t T n c w hr hnc hc (by omega) hn _ rfl h0
end Go.Proofs.Ytcjooibadbhjaaa.Code

namespace Go.Proofs.Ytcjooibadbhjaaa.codeOne
open Go.ChangeShapes Go.WideShapes Go.ChangeAt Go.RowKit
set_option linter.unusedVariables false

theorem own : ownKnob Try.prog.godebug = none := by kernel_rfl
theorem laidOut : laidOutB Try.prog = true := by kernel_rfl

set_option maxRecDepth 100000 in
theorem lifted (S : Code.Said) (os : Os) (started : os.Started) (H : Type) (enc : TypeId × Value → H) :
    ReturnsInHanded {} Try.checked os 8 .any (Rows.codeOneSpec.pre6 enc Try.prog Try.f8 Rows.codeOneRow.domain false) (Rows.codeOneSpec.post enc Try.prog Try.f8 false true false false) := by
  refine returnsInHanded_of_change (C := Try.checked) own started (by kernel_rfl) Try.func8
    (ChangeSpec.witness6 (enc := enc) (C := Try.checked) false ⟨#[], #[.agg #[.int .i64 0, .int .i64 0, .int .i64 0, .slice none 0 0]], []⟩ 8 (by kernel_rfl) (by kernel_rfl) (by kernel_rfl) (by kernel_rfl)) ?_
  intro W base args ds gs before hval0 hW hcnd _
  have hval : ∀ (j : Nat) t v, Try.f8.params[j]? = some t → args[j]? = some v → Value.okWide Try.prog W .any base t v := hval0
  have hW' := hW
  obtain ⟨p, q, hA0, hV, rfl, hfz, hnd⟩ := hW
  have hA : DataW.TrodAll enc Try.prog W 0 (fun _ => true) true Try.f8.params.toList args.toList ds p := hA0
  rw [Try.params8] at hA hval
  obtain ⟨v0, vs0, d0, ds0, p0, q0, hargs, rfl, rfl, h0, rr0⟩ := trodAll_cons hA
  obtain ⟨rfl, rfl, rfl⟩ := trodAll_nil rr0
  obtain rfl : args = #[v0] := by cases args; simp_all
  obtain ⟨rfl, rfl⟩ := trodVars_none hV
  have k0 := h0
  have lt0 : ∀ x ∈ p0, x.block < W.heap.size := by obtain ⟨m, hm⟩ := k0; exact DataW.trod_lt m _ _ _ hm
  obtain ⟨x0, rfl, g0⟩ := Code.open_step (hval 0 37 v0 rfl rfl) h0
  clear hA0 hval0
  refine (Code.one_walk S x0 W g0.1).mono fun e W' ⟨he, bel⟩ => ?_
  subst he
  exact ⟨_, rfl, _, _, _, [], _, [], hW', trodAll_mk1 (shut_bool Try.underlying4 _), (trodAll_cons_mk (Below.trod laidOut (by kernel_rfl) (of_decide_eq_true (by kernel_rfl)) k0 bel lt0) trodAll_mk0), rfl, bel.frame _, fun h => by cases h⟩

theorem over (S : Code.Said) : Rows.codeOneRow.holds Try.pinned (OpenSpec.ofChange Rows.codeOneSpec) :=
  OpenClaim.holds_of_wide 8 Try.f8 rfl rfl rfl rfl rfl rfl rfl ⟨rfl, rfl, rfl, rfl, rfl⟩ rfl rfl rfl rfl rfl (by kernel_rfl) Try.func8 (by kernel_rfl)
    (of_decide_eq_true (by kernel_rfl)) (by unfold Func.isWrapper; first | (rw [if_pos (by decide +kernel)]; kernel_rfl) | (rw [if_neg (by decide +kernel)]; exact ⟨rfl, rfl⟩))
    (fun os started H enc _ => lifted S os started H enc)
end Go.Proofs.Ytcjooibadbhjaaa.codeOne

namespace Go.Proofs.Ytcjooibadbhjaaa

theorem codeOne_holds : Rows.CodeOneSaid := codeOne.over Code.said
end Go.Proofs.Ytcjooibadbhjaaa
