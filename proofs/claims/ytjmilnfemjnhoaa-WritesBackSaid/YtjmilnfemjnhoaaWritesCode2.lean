/-
  WHAT EACH FUNCTION OF THE LAYER writes RETURNS, AS IT IS WRITTEN: clone (with the library's Clone).
-/
import Derived.Test.YtjmilnfemjnhoaaWritesCode
import Derived.Deep.RegionHeld3
import Derived.Lib.SliceRun
namespace Go.Proofs.Ytjmilnfemjnhoaa.Writes
open Go.ChangeShapes Go.WideShapes Go.ChangeAt Go.RowKit Mem
open Heap (Write wc ws ws_len vB at_write)

theorem clonew_c (h : List Write) (A : Option Addr) (n c : Nat) (w : World) (hr : Rd w 2 A n (ws h)) (hn : n ≤ 1000000) :
    Calls Try.prog 38 #[.slice A n c] w (Mem.RetO w 27 2 n (ws h)) := by
  have hnil := fun W => Lib.run_eql_slice_nil (P := Try.prog) W 22 27 A n c 0 0 Try.underlying22
  rcases A with _ | ad
  · obtain ⟨rfl, hx⟩ := rd_nil hr
    have HX := Lib.hid hx
    clear hr hx
    go_enter Try.func38, Try.ntmps38
    go_wp2
    go_ret
    exact ⟨_, rfl, by rw [HX.out]; exact Own.nil_ (Below.refl _ _)⟩
  · have HR := Lib.hid hr
    clear hr
    go_enter Try.func38, Try.ntmps38
    go_wp2_with (at_builtin; refine append_rd rfl _ _ 22 rfl tWrite w _ 0 [] rfl (Own.empty w _ _) _ n c (ws h) rfl (HR.out.alloc _) (ws_one h) (by omega) (by omega) ?_; intro v' w' hown' hg; have HO := Lib.hid hown'; clear hown' hg)
    go_ret
    exact ⟨v', rfl, by have := HO.out; simpa using this⟩

theorem clonei_c (h : List Int) (A : Option Addr) (n c : Nat) (w : World) (hr : Rd w 1 A n (zs h)) (hn : n ≤ 1000000) :
    Calls Try.prog 39 #[.slice A n c] w (Mem.RetO w 3 1 n (zs h)) := by
  have hnil := fun W => Lib.run_eql_slice_nil (P := Try.prog) W 23 3 A n c 0 0 Try.underlying23
  rcases A with _ | ad
  · obtain ⟨rfl, hx⟩ := rd_nil hr
    have HX := Lib.hid hx
    clear hr hx
    go_enter Try.func39, Try.ntmps39
    go_wp2
    go_ret
    exact ⟨_, rfl, by rw [HX.out]; exact Own.nil_ (Below.refl _ _)⟩
  · have HR := Lib.hid hr
    clear hr
    go_enter Try.func39, Try.ntmps39
    go_wp2_with (at_builtin; refine append_rd rfl _ _ 23 rfl tInt w _ 0 [] rfl (Own.empty w _ _) _ n c (zs h) rfl (HR.out.alloc _) (zs_one h) (by omega) (by omega) ?_; intro v' w' hown' hg; have HO := Lib.hid hown'; clear hown' hg)
    go_ret
    exact ⟨v', rfl, by have := HO.out; simpa using this⟩

theorem own_apart {w0 w1 w2 : World} {e size n e2 size2 n2 : Nat} {v1 v2 : Value} {xs ys : List Value} (h1 : Own w0 w1 e size v1 n xs) (h2 : Own w1 w2 e2 size2 v2 n2 ys) : Apart v1 v2 := by
  cases hv : v1.ownBlock with
  | none => exact .inl hv
  | some g =>
    refine .inr (.inr ?_)
    rw [hv]
    intro e
    have l1 := h1.lt g hv
    have l2 := h2.base g e.symm
    omega
/-- What is returned: a log of the call's own. -/
def RetP (w : World) (n m : Nat) (l : Log) (e : Ending) (w' : World) : Prop :=
  ∃ A c B d, e = .returned (.agg #[.slice A n c, .slice B m d]) ∧ Pair w w' (.slice A n c) n (.slice B m d) m l

set_option maxRecDepth 100000 in
set_option maxHeartbeats 4000000 in
theorem clone_c (l : Log) (A B : Option Addr) (n c m d : Nat) (w : World) (hl : LogAt w A n c B m d l) (hn : n ≤ 1000000) (hm : m ≤ 1000000) :
    Calls Try.prog 28 #[.agg #[.slice A n c, .slice B m d]] w (RetP w n m l) := by
  have HL := Lib.hid hl
  clear hl
  go_enter Try.func28, Try.ntmps28
  go_wp2_with fail
  have HB1 : Hid (Below w.heap.size w ((w.alloc (.cells #[.slice A n c, .slice B m d] 25)).alloc (.cells #[.slice none 0 0, .slice none 0 0] 25))) := Lib.hid (bl_alloc (bl_alloc (Below.refl _ _) _) _)
  have KL : Hid (Blk ((w.alloc (.cells #[.slice A n c, .slice B m d] 25)).alloc (.cells #[.slice none 0 0, .slice none 0 0] 25)) w.heap.size 25 #[.slice A n c, .slice B m d]) := Lib.hid ((Blk.new _ _ _).alloc _)
  have KR : Hid (Blk ((w.alloc (.cells #[.slice A n c, .slice B m d] 25)).alloc (.cells #[.slice none 0 0, .slice none 0 0] 25)) (w.heap.size + 1) 25 #[.slice none 0 0, .slice none 0 0]) := Lib.hid (by
    have := Blk.new (w.alloc (.cells #[.slice A n c, .slice B m d] 25)) 25 #[.slice none 0 0, .slice none 0 0]; simpa using this)
  generalize (w.alloc (.cells #[.slice A n c, .slice B m d] 25)).alloc (.cells #[.slice none 0 0, .slice none 0 0] 25) = w1 at *
  have C0 : Hid (∀ W, Below w1.heap.size w1 W → W.cell? ⟨w.heap.size, 0, none⟩ = some (.slice A n c)) := Lib.hid (fun W h => (KL.out.below h).cell 0 _ rfl)
  have C1 : Hid (∀ W, Below w1.heap.size w1 W → W.cell? ⟨w.heap.size, 1, none⟩ = some (.slice B m d)) := Lib.hid (fun W h => (KL.out.below h).cell 1 _ rfl)
  have BD : Hid (Below w1.heap.size w1 w1.drew) := Lib.hid (Below.refl _ _).drew
  have i0 : w1.drew.cell? ⟨w.heap.size, 0, none⟩ = some (.slice A n c) := C0.out _ BD.out
  have i1 : w1.drew.cell? ⟨w.heap.size, 1, none⟩ = some (.slice B m d) := C1.out _ BD.out
  go_region_held3 (fun w' => w'.cell? ⟨w.heap.size, 0, none⟩ = some (.slice A n c) ∧ w'.cell? ⟨w.heap.size, 1, none⟩ = some (.slice B m d)) (first | exact ⟨a0, a1⟩ | exact ⟨b0, b1⟩ | exact ⟨i0, i1⟩ | go_keep)
    (first
      | (go_at_call 38
         refine (clonew_c l.list _ _ _ _ (by first | exact HL.out.rl.below (bl_trans HB1.out BB.out) | exact HL.out.rl.below (bl_trans HB1.out BD.out)) hn).mono ?_
         rintro e w5 ⟨v5, rfl, o5⟩
         have BA : Hid (Below w1.heap.size w1 w5) := Lib.hid (by first | exact bl_trans BB.out o5.2 | exact bl_trans BD.out o5.2)
         have a0 := C0.out _ BA.out
         have a1 := C1.out _ BA.out
         have ra0 := (KR.out.below BA.out).cell 0 _ rfl
         have ra1 := (KR.out.below BA.out).cell 1 _ rfl
         have raf := (KR.out.below BA.out).frozen
         obtain ⟨A5, c5, rfl, -, -⟩ := own_room o5
         have OA := Lib.hid o5
         clear o5)
      | (go_at_call 39
         refine (clonei_c l.marks _ _ _ _ (by first | exact HL.out.rm.below (bl_trans HB1.out BA.out) | exact HL.out.rm.below (bl_trans HB1.out BD.out)) hm).mono ?_
         rintro e w8 ⟨v8, rfl, o8⟩
         have BB : Hid (Below w1.heap.size w1 w8) := Lib.hid (by first | exact bl_trans BA.out o8.2 | exact bl_trans BD.out o8.2)
         have b0 := C0.out _ BB.out
         have b1 := C1.out _ BB.out
         have rb0 := (KR.out.below BB.out).cell 0 _ rfl
         have rb1 := (KR.out.below BB.out).cell 1 _ rfl
         have rbf := (KR.out.below BB.out).frozen
         obtain ⟨B8, d8, rfl, -, -⟩ := own_room o8
         have OB := Lib.hid o8
         clear o8))
  clear i0 i1 a0 a1 b0 b1 ra0 ra1 raf
  have PR : Hid (Pair w w8 (.slice A5 n c5) n (.slice B8 m d8) m l) := Lib.hid ⟨(OA.out.below OB.out.2).wide (bl_trans HB1.out BD.out), OB.out.wide (bl_trans HB1.out BA.out), own_apart OA.out OB.out⟩
  have n5 : (Value.slice A5 n c5).ownBlock ≠ some (w.heap.size + 1) := OA.out.ne_old KR.out.lt
  have n8 : (Value.slice B8 m d8).ownBlock ≠ some (w.heap.size + 1) := OB.out.ne_old (KR.out.below BA.out).lt
  go_wp2
  have hk := ((KR.out.below BB.out).set_ 0 (.slice A5 n c5)).set_ 1 (.slice B8 m d8)
  have q0 := hk.cell 0 _ rfl
  have q1 := hk.cell 1 _ rfl
  clear hk
  (try simp only [Exit.inBlock, Exit.then])
  refine bodyPost_ret (v := .agg #[.slice A5 n c5, .slice B8 m d8]) (by simp [results, Try.results28, go_sem, q0, q1]) rfl ?_
  exact ⟨A5, c5, B8, d8, rfl, (PR.out.set_ne (by omega) n5 n8 _ _).set_ne (by omega) n5 n8 _ _⟩
end Go.Proofs.Ytjmilnfemjnhoaa.Writes
