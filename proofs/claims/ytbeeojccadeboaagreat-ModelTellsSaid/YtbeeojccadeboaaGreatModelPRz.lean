/-
  WHAT THE DOCUMENT'S ANSWER FOR LAYER 10 RETURNS: part. No conditions beyond those that each theorem states.
-/
import Derived.Test.YtbeeojccadeboaaGreatModelPR0
import Derived.Test.YtbeeojccadeboaaGreatModelPR1
import Derived.Test.YtbeeojccadeboaaGreatModelPR2
import Derived.Test.YtbeeojccadeboaaGreatModelPR3
import Derived.Test.YtbeeojccadeboaaGreatModelPR4
import Derived.Test.YtbeeojccadeboaaGreatModelPR5
import Derived.Test.YtbeeojccadeboaaGreatModelPR6
import Derived.Test.YtbeeojccadeboaaGreatModelPE
namespace Go.Proofs.YtbeeojccadeboaaGreat.Model
open Go.ChangeShapes Go.WideShapes Go.ChangeAt Go.RowKit Mem Go.Proofs.YtbeeojccadeboaaGreat.Code

theorem part_r : ∀ f, PartR f := by
  intro f
  induction f with
  | zero =>
    intro l A n c frm to r w hp z1 z2 h1 h2
    subst h1 h2
    exact part_end_r A n c frm to r w l hp.st (by have := hp.fuel; omega)
  | succ f ih =>
    intro l A n c frm to r w hp z1 z2 h1 h2
    subst h1 h2
    by_cases hlt : frm < to
    · obtain ⟨⟨x, T, tn, tc⟩, hx⟩ : ∃ y, l[frm]? = some y := ⟨_, List.getElem?_eq_getElem (by have := hp.code.len; have := hp.ton; omega)⟩
      obtain ⟨_, hone, _⟩ := hp.step hlt _ hx
      have hd := one_d x hone
      rcases (by omega : x.d = 1 ∨ x.d = 2 ∨ x.d = 3 ∨ x.d = 4 ∨ x.d = 5 ∨ x.d = 6 ∨ x.d = 7) with hd | hd | hd | hd | hd | hd | hd
      · cases hl : Heap.liveAt r.s.h x.b with
        | false => exact part_dead_r f ih l A n c frm to r w hp hlt x T tn tc hx hd hl
        | true =>
          cases hw : r.s.wrote x.b.toNat with
          | false => exact part_load0_r f ih l A n c frm to r w hp hlt x T tn tc hx hd hl hw
          | true => exact part_load1_r f ih l A n c frm to r w hp hlt x T tn tc hx hd hl hw
      · exact part_set_r f ih l A n c frm to r w hp hlt x T tn tc hx hd
      · cases hl : Heap.liveAt r.s.h x.a with
        | false => exact part_none_r f ih l A n c frm to r w hp hlt x T tn tc hx hd hl
        | true => exact part_store_r f ih l A n c frm to r w hp hlt x T tn tc hx hd hl
      · by_cases hl : tellM r.s x.t = 0
        · exact part_skip0_r f ih l A n c frm to r w hp hlt x T tn tc hx hd hl
        · exact part_skip1_r f ih l A n c frm to r w hp hlt x T tn tc hx hd hl
      · exact part_retry_r f ih l A n c frm to r w hp hlt x T tn tc hx hd
      · exact part_fail_r f ih l A n c frm to r w hp hlt x T tn tc hx hd
      · by_cases hk : (eitherS (seg (ss l) (frm + 1) (frm + 1 + x.a.toNat)) (seg (ss l) (frm + 1 + x.a.toNat) (frm + 1 + x.a.toNat + x.b.toNat)) r.s).kind = 1
        · exact part_either1_r f ih l A n c frm to r w hp hlt x T tn tc hx hd (either_r f ih) (fun U V e1 e2 => by rw [e1, e2]; exact hk)
        · exact part_either0_r f ih l A n c frm to r w hp hlt x T tn tc hx hd (either_r f ih) (fun U V e1 e2 => by rw [e1, e2]; exact hk)
    · exact part_end_r A n c frm to r w l hp.st (by omega)
end Go.Proofs.YtbeeojccadeboaaGreat.Model
