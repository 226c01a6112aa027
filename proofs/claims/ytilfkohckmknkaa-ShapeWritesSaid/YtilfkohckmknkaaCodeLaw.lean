/-
  WHAT THE LAWS OF LAYER 8 MAKE OF A CODE: Small, Ref; codes that came in, opened.
-/
import Derived.Test.YtilfkohckmknkaaCodeRef3
import Derived.Test.YtilfkohckmknkaaTermLaw
import Derived.Deep.RegionHeld3
namespace Go.Proofs.Ytilfkohckmknkaa.Code
open Go.ChangeShapes Go.WideShapes Go.ChangeAt Go.RowKit Mem

/-- Are they few, each with a short term? -/
def smallB (l : List Raw) : Bool := l.all (fun r => decide (r.n ≤ 20)) && decide (l.length ≤ 40)
def smallI (l : List Raw) : Int := if smallB l = true then (l.length : Int) else -1
theorem small_lim (l : List Raw) (h : smallB l = true) : Lim l ∧ l.length ≤ 40 := by
  unfold smallB at h
  rw [Bool.and_eq_true] at h
  refine ⟨fun r hr => ?_, by simpa using h.2⟩
  have := List.all_eq_true.1 h.1 r hr
  have : r.n ≤ 20 := by simpa using this
  omega
theorem small_c (l : List Raw) (A : Option Addr) (n c : Nat) (w : World) (v : Int) (hat : At w A n l) (hn : n ≤ 9223372036854775807) (hv : smallI l = v) :
    Calls Try.prog 22 #[.slice A n c] w (RetI w v) := by
  have HL := Lib.hid hat.len
  have HA := Lib.hid hat
  have HV := Lib.hid hv
  clear hat hv
  go_enter Try.func22, Try.ntmps22
  go_wp2
  go_loopw [7] (fun i wr => ∃ k : Nat, k ≤ n ∧ i = .int .i64 k ∧ Hid (Below w.heap.size w wr) ∧ Hid ((l.take k).all (fun r => decide (r.n ≤ 20)) = true)) (fun i _ => n - (intOf i).toNat)
  case atStart => exact ⟨0, Nat.zero_le _, rfl, Lib.hid (Below.refl _ _), Lib.hid rfl⟩
  case round =>
    obtain ⟨k, hk, rfl, bb, HALL⟩ := hrel
    generalize wr = w1 at *
    by_cases hlt : k < n
    · obtain ⟨b, off, ⟨⟨sd, sa, sb, st⟩, T, tn, tc⟩, rfl, hx, c0, c1, c2, c3, hrd, htn⟩ := (HA.out.below bb.out).at_ k hlt
      simp only at c0 c1 c2 c3 htn
      have hs := Lib.hid (take_all l (fun r => decide (r.n ≤ 20)) k _ hx)
      have HX := Lib.hid hx
      have HB2 := Lib.hid (bl_alloc bb.out (.cells #[.int .i64 sd, .int .i64 sa, .int .i64 sb, .slice T tn tc] 53))
      clear hx hrd
      by_cases h20 : 20 < tn
      · have HF : Hid (v = -1) := Lib.hid (by
          rw [← HV.out]; unfold smallI smallB
          rw [all_bad l (fun r => decide (r.n ≤ 20)) k _ HX.out (by simpa using h20)]; rfl)
        go_wp2
        go_ret
        exact ⟨ret_int HF.out.symm, HB2.out⟩
      · go_wp2
        go_roundw
        case rel => exact ⟨k + 1, by omega, by go_num, HB2, Lib.hid (by rw [hs.out, HALL.out]; simpa using h20)⟩
        case measure => simp [intOf]; omega
    · have HO : Hid (l.all (fun r => decide (r.n ≤ 20)) = true) := Lib.hid (by have := HALL.out; rwa [List.take_of_length_le (by rw [HL.out]; omega)] at this)
      by_cases h40 : 40 < n
      · have HF : Hid (v = -1) := Lib.hid (by rw [← HV.out]; unfold smallI smallB; rw [HO.out, HL.out, decide_eq_false (by omega)]; rfl)
        go_wp2
        go_ret
        exact ⟨ret_int HF.out.symm, bb.out⟩
      · have HF : Hid (v = (n : Int)) := Lib.hid (by rw [← HV.out]; unfold smallI smallB; rw [HO.out, HL.out, decide_eq_true (by omega)]; rfl)
        go_wp2
        go_ret
        exact ⟨ret_int HF.out.symm, bb.out⟩

/-- The terms lie in other blocks than a slice that grows. -/
def Off (v : Value) (l : List Raw) : Prop := ∀ r ∈ l, ∀ b off, r.T = some ⟨b, off, none⟩ → 0 < r.n → v.ownBlock ≠ some b
section
variable {w w' : World} {v v' : Value} {l m : List Raw} {o : Option Nat}
theorem cell_grown {a : Addr} {u : Value} (h : w.cell? a = some u) (hg : w.grownBy w' o) (hne : o ≠ some a.block) : w'.cell? a = some u := by
  obtain ⟨_, _, _, _, hb⟩ := hg
  have e := hb a.block (cell_lt h) (fun e => hne e.symm)
  unfold World.cell? at h ⊢
  rw [e]; exact h
theorem rd_grown {k n : Nat} {A : Option Addr} {xs : List Value} (h : Rd w k A n xs) (hg : w.grownBy w' o) (hne : ∀ b off, A = some ⟨b, off, none⟩ → 0 < n → o ≠ some b) : Rd w' k A n xs :=
  ⟨h.1, fun hn => by
    obtain ⟨b, off, e, hc⟩ := h.2 hn
    exact ⟨b, off, e, fun j u hu => cell_grown (hc j u hu) hg (hne b off e hn)⟩⟩
theorem Terms.grown (h : Terms w l) (ho : Off v l) (hg : w.grownBy w' v.ownBlock) : Terms w' l := fun r hr =>
  ⟨rd_grown (h r hr).1 hg (fun b off e hn => ho r hr b off e hn), (h r hr).2⟩
theorem rd_lt {k n b off : Nat} {A : Option Addr} {xs : List Value} (h : Rd w k A n xs) (hk : 0 < k) (hn : 0 < n) (e : A = some ⟨b, off, none⟩) : b < w.heap.size := by
  obtain ⟨b', off', e', hc⟩ := h.2 hn
  rw [e] at e'
  injection e' with e'
  injection e' with e1 e2
  subst e1 e2
  have hl : 0 < xs.length := by rw [h.1]; exact Nat.mul_pos hn hk
  have := hc 0 _ (List.getElem?_eq_getElem hl)
  have := cell_lt this
  simpa using this
theorem Off.grown (h : Terms w l) (ho : Off v l) (hat : v'.ownBlock = v.ownBlock ∨ v'.ownBlock = some w.heap.size) : Off v' l := by
  intro r hr b off e hn
  rcases hat with hat | hat
  · rw [hat]; exact ho r hr b off e hn
  · rw [hat]
    have := rd_lt (h r hr).1 (by decide) hn e
    intro e2; injection e2 with e2; omega
theorem Off.app (h : Off v l) (k : Off v m) : Off v (l ++ m) := by
  intro r hr
  rcases List.mem_append.1 hr with hr | hr
  · exact h r hr
  · exact k r hr
end

theorem tRStep : SliceT Try.prog 35 58 4 48 := SliceT.mk_ (z := .agg #[.int .i64 0, .int .i64 0, .int .i64 0, .slice none 0 0]) Try.underlying35 (by kernel_rfl) rfl (by decide)
theorem tStep : SliceT Try.prog 33 53 4 48 := SliceT.mk_ (z := .agg #[.int .i64 0, .int .i64 0, .int .i64 0, .slice none 0 0]) Try.underlying33 (by kernel_rfl) rfl (by decide)
/-- What is returned: a code, of the same steps. -/
def RetC (w : World) (n : Nat) (l : List Raw) (e : Ending) (w' : World) : Prop :=
  ∃ B d m, e = .returned (.slice B n d) ∧ At w' B n m ∧ ss m = ss l ∧ Lim m ∧ Below w.heap.size w w'
end Go.Proofs.Ytilfkohckmknkaa.Code
