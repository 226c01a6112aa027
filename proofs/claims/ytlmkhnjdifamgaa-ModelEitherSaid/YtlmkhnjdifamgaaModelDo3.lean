/-
  WHAT THE LAYER model DOES, AS IT IS WRITTEN: Skip. No conditions beyond those that each theorem states.
-/
import Derived.Test.YtlmkhnjdifamgaaModelDo2
namespace Go.Proofs.Ytlmkhnjdifamgaa.Model
open Go.ChangeShapes Go.WideShapes Go.ChangeAt Go.RowKit Mem Go.Proofs.Ytlmkhnjdifamgaa.Code

theorem ss_drop (l : List Raw) (k : Nat) : ss (l.drop k) = (ss l).drop k := by unfold ss; rw [List.map_drop]
theorem ss_take (l : List Raw) (k : Nat) : ss (l.take k) = (ss l).take k := by unfold ss; rw [List.map_take]
section
variable {K : Nat → Nat → Prop} {w0 w : World} {g : Nat} {HA : Option Addr} {hn hc : Nat} {h : List Heap.Cell} {m : CS} {x : RL} {rest : List Raw} {B : Option Addr} {rn rc e : Nat}
set_option maxRecDepth 100000 in
theorem skip_c {r : Raw} (hd : r.s.d = 4) (p : Pre K w0 w g HA hn hc h m x r rest B rn rc e) :
    Calls Try.prog 45 #[.pointer (some ⟨g, 0, none⟩), .agg #[.int .i64 r.s.d, .int .i64 r.s.a, .int .i64 r.s.b, .slice r.T r.n r.c], .slice B rn rc] w (DoPost K w0 w g (.slice HA hn hc) h m r rest e) := by
  obtain ⟨a1, a24⟩ := one_skip r.s p.one hd
  obtain ⟨k, hk⟩ : ∃ k : Nat, r.s.a = (k : Int) := ⟨r.s.a.toNat, by omega⟩
  have hlen : rest.length = rn := p.more.len
  have hle : k ≤ rn := by
    have hw := p.well
    by_cases hlt : ((ss rest).length : Int) < r.s.a
    · rw [well_skip r.s (ss rest) hd hlt] at hw; cases hw
    · rw [ss_len] at hlt; omega
  obtain ⟨v, hv⟩ : ∃ v, Term.evalS r.s.t h m.regs = v := ⟨_, rfl⟩
  have htn := p.tn (.inr (.inr hd))
  have ht : tellM (abs h m 0) r.s.t = v.1 := by rw [p.good.tell r.s.t (one_reck r.s p.one (.inr (.inr hd))) 0, hv]
  have hps := part_skip r.s (ss rest) (abs h m 0) hd
  rw [ht] at hps
  have hcap := p.cap
  have HP1 : Hid (∀ w', Below w.heap.size w w' → v.1 ≠ 0 → DoPost K w0 w g (.slice HA hn hc) h m r rest e (.returned (.tuple #[.slice B rn rc, .int .i64 1])) w') := Lib.hid (fun w' hb hne => by
    refine ⟨1, rest, B, rn, rc, m, rfl, ⟨x, p.run.below hb, p.ok.size hb.size, p.ok.fr hb⟩, .inl ⟨rfl, p.more, p.cap, p.rcc, p.all, p.tail, Nat.le_refl _, p.good.weak _ (by omega), p.why, ?_⟩⟩
    rw [hps, if_neg hne])
  have HP2 : Hid (∀ w', Below w.heap.size w w' → v.1 = 0 → DoPost K w0 w g (.slice HA hn hc) h m r rest e (.returned (.tuple #[.slice (if rc = k then B else B.map (·.add (k * 4))) (rn - k) (rc - k), .int .i64 1])) w') := Lib.hid (fun w' hb he => by
    refine ⟨1, rest.drop k, _, _, _, m, rfl, ⟨x, p.run.below hb, p.ok.size hb.size, p.ok.fr hb⟩, .inl ⟨rfl, p.more.behind k rc hle hcap, by omega, by have := p.rcc; omega, ?_, ?_, by rw [List.length_drop]; omega, p.good.weak _ (by rw [List.length_drop]; omega), p.why, ?_⟩⟩
    · rw [ss_drop]; exact all_drop _ p.all
    · rw [ss_drop]; exact well_drop _ _ p.all p.tail
    · rw [hps, if_pos he, ss_drop, hk, Int.toNat_natCast])
  have hr := p.run.below (bl_alloc (Below.refl w.heap.size w) (.cells #[.int .i64 r.s.d, .int .i64 r.s.a, .int .i64 r.s.b, .slice r.T r.n r.c] 46))
  have HC : Hid (Calls Try.prog 70 #[.pointer (some ⟨g, 0, none⟩), .agg #[.int .i64 r.s.d, .int .i64 r.s.a, .int .i64 r.s.b, .slice r.T r.n r.c]] (w.alloc (.cells #[.int .i64 r.s.d, .int .i64 r.s.a, .int .i64 r.s.b, .slice r.T r.n r.c] 46)) fun e w' => e = .returned (.int .i64 v.1) ∧ Below (w.alloc (.cells #[.int .i64 r.s.d, .int .i64 r.s.a, .int .i64 r.s.b, .slice r.T r.n r.c] 46)).heap.size (w.alloc (.cells #[.int .i64 r.s.d, .int .i64 r.s.a, .int .i64 r.s.b, .slice r.T r.n r.c] 46)) w') :=
    Lib.hid (told_c r.s.t r.T r.n r.c r.s.d r.s.a r.s.b h HA hn hc g w0 _ m x v hr (p.heap.below hr.bel) (p.term.below hr.bel) htn (by have := p.hn; omega) hv)
  have HK : Hid (Blk (w.alloc (.cells #[.int .i64 r.s.d, .int .i64 r.s.a, .int .i64 r.s.b, .slice r.T r.n r.c] 46)) w.heap.size 46 #[.int .i64 r.s.d, .int .i64 r.s.a, .int .i64 r.s.b, .slice r.T r.n r.c]) := Lib.hid (Blk.new _ _ _)
  have HB : Hid (Below w.heap.size w (w.alloc (.cells #[.int .i64 r.s.d, .int .i64 r.s.a, .int .i64 r.s.b, .slice r.T r.n r.c] 46))) := Lib.hid (bl_alloc (Below.refl _ _) _)
  obtain ⟨v1, v2⟩ := v
  simp only at HP1 HP2 HC
  generalize r.s.d = sd at *
  rw [hk] at *
  clear hr hv ht hps p hd a1 a24 hk hlen htn
  by_cases h0 : v1 = 0
  · subst h0
    go_enter Try.func45, Try.ntmps45
    go_wp2_with fail
    refine HC.out.mono ?_
    rintro e w2 ⟨rfl, b2⟩
    have HB2 := Lib.hid (bl_trans HB.out b2)
    have q1 := (HK.out.below b2).cell 1 _ rfl
    clear b2
    go_wp2
    all_goals
      go_ret2
      have h9 := HP2.out _ HB2.out trivial
      first
        | (rw [if_neg (by assumption)] at h9; exact h9)
        | (have e9 : rc = k := by assumption
           rw [if_pos e9, show rc - k = 0 by omega] at h9
           exact h9)
  · have q : (v1 == 0) = false := beq_eq_false_iff_ne.2 h0
    go_enter Try.func45, Try.ntmps45
    go_wp2_with fail
    refine HC.out.mono ?_
    rintro e w2 ⟨rfl, b2⟩
    have HB2 := Lib.hid (bl_trans HB.out b2)
    clear b2
    go_wp2
    go_ret2
    exact HP1.out _ HB2.out h0
end
end Go.Proofs.Ytlmkhnjdifamgaa.Model
