/-
  WHAT THE DOCUMENT'S ANSWER FOR LAYER 10 RETURNS: Run, whatever it is given. No conditions beyond those that each theorem states.
-/
import Derived.Test.YtbeeojccadeboaaGreatModelRR2
namespace Go.Proofs.YtbeeojccadeboaaGreat.Model
open Go.ChangeShapes Go.WideShapes Go.ChangeAt Go.RowKit Mem Go.Proofs.YtbeeojccadeboaaGreat.Code

theorem refrun (l : List Raw) (h : List Heap.Cell) (C HA : Option Addr) (n c hn hc : Nat) (w : World) (o : Out) (g : List Heap.Cell) (ok : Bool) (n1 n2 n3 n4 gn : Nat) (hat : At w C n l) (hlim : Lim l) (hnm : n ≤ 1000000) (hh : Rd w 2 HA hn (Heap.cs h)) (hhm : hn ≤ 1000000)
    (hrun : runS (ss l) h = (o, g, ok)) (e1 : o.regs.length = n1) (e2 : o.path.length = n2) (e3 : o.seen.length = n3) (e4 : o.writes.length = n4) (e5 : g.length = gn) :
    Calls Tryz.prog 13 #[.slice C n c, .slice HA hn hc] w (RetRef w o n1 n2 n3 n4 g gn ok) := by
  have hhl : h.length = hn := by have h1 := hh.1; rw [Heap.cs_len] at h1; omega
  cases hok : okR (ss l) h with
  | false =>
    have h2 := runr_no l h C HA n c hn hc w hat hlim hnm hh hhm hok
    have hr : runS (ss l) h = (⟨0, 0, [], [], [], []⟩, h, false) := by unfold runS; rw [hok]; rfl
    rw [hr] at hrun
    simp only [Prod.mk.injEq] at hrun
    obtain ⟨rfl, rfl, rfl⟩ := hrun
    subst e1 e2 e3 e4 e5
    rw [hhl]
    exact h2
  | true =>
    have h0 := hok
    unfold okR at h0
    rw [Bool.and_eq_true, decide_eq_true_eq] at h0
    have hr : runS (ss l) h = (outS (part (ss l) (s0 h)), if (part (ss l) (s0 h)).kind = 1 then (part (ss l) (s0 h)).h else h, true) := by unfold runS; rw [hok, if_pos rfl]
    rw [hr] at hrun
    simp only [Prod.mk.injEq] at hrun
    obtain ⟨rfl, rfl, rfl⟩ := hrun
    refine (runr_yes l h C HA n c hn hc w hat hlim hnm hh hhm h0.1 h0.2).mono ?_
    rintro e w' ⟨m1, m2, m3, m4, gm, A1, c1, A2, c2, A3, c3, A4, c4, G, gc, he, ho, hg, hb⟩
    have q1 := ho.regs.1
    have q2 := ho.path.1
    have q3 := ho.seen.1
    have q4 := ho.writes.1
    have q5 := hg.1
    rw [zs_count] at q1 q2 q3
    rw [Heap.ws_len] at q4
    rw [Heap.cs_len] at q5
    obtain rfl : m1 = n1 := by omega
    obtain rfl : m2 = n2 := by omega
    obtain rfl : m3 = n3 := by omega
    obtain rfl : m4 = n4 := by omega
    obtain rfl : gm = gn := by omega
    exact ⟨A1, c1, A2, c2, A3, c3, A4, c4, G, gc, he, ho, hg, hb⟩
end Go.Proofs.YtbeeojccadeboaaGreat.Model
