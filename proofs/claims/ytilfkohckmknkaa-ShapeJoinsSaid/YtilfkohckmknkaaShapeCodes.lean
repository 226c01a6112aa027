/-
  WHAT THE TAKER'S CALLS code, several OF IT, codes AND end RETURN, or that they panic. No conditions beyond those that each theorem states.
-/
import Derived.Test.YtilfkohckmknkaaShapeSevs
import Derived.Test.YtilfkohckmknkaaCodeCode3
namespace Go.Proofs.Ytilfkohckmknkaa.Shape
open Go.ChangeShapes Go.WideShapes Go.ChangeAt Go.RowKit Mem Go.Proofs.Ytilfkohckmknkaa.Code

/-- A code that has just been taken. -/
def Taken (w w' : World) (x : RawC) : Prop := Inner w' x ∧ x.n ≤ 255 ∧ Lim x.l ∧ New w x
theorem code_lim {m : List Raw} (h : Few m) : Lim m := h.lim
set_option maxRecDepth 100000 in
theorem code_ok (T n : Nat) (l q : List Int) (c : List Step) (w : World) (h : Tk w T ((n : Int) :: l)) (hn : n ≤ 255) (ho : manyT stepT n l = some (c, q)) (hc : checkS c = 0) :
    Calls Try.prog 40 #[.pointer (some ⟨T, 0, none⟩)] w fun e w' => ∃ x : RawC, e = .returned (.slice x.A x.n x.c) ∧ ss x.l = c ∧ Taken w w' x ∧ Tk w' T q ∧ w.grownBy w' (some T) := by
  have HT := Lib.hid h
  have HO := Lib.hid ho
  have HC := Lib.hid hc
  have hmf : ∀ (fn : Fn) (first cap : Array Value) (w : World), (Instr.makeFunc fn first cap).run Try.prog w = .ok (.func fn first cap) w := fun _ _ _ _ => rfl
  clear h ho hc
  go_enter Try.func40, Try.ntmps40
  go_wp2_with (first
    | (go_at_call 38; refine (one_ok T (n : Int) _ _ HT.out).mono ?_; rintro e w2 ⟨rfl, ht2, hg2⟩; have HT2 := Lib.hid ht2; have HG2 := Lib.hid hg2; clear ht2 hg2)
    | (go_at_call 48; refine (sevstep_some T n l q c _ HT2.out hn HO.out).mono ?_; rintro e w3 ⟨B, d, m, rfl, hs3, ho3, hte3, hfw3, hnw3, ht3, hg3⟩; have HS3 := Lib.hid hs3; have HO3 := Lib.hid ho3; have HT3 := Lib.hid ht3; have HG3 := Lib.hid (kept_trans HG2.out hg3); have HTE3 := Lib.hid hte3; have HFW3 := Lib.hid hfw3; have HNW3 := Lib.hid (hnw3.mono HG2.out.size); clear hs3 ho3 ht3 hg3 hte3 hfw3 hnw3; have HRM := Lib.hid (row_room HO3.out)
       have HB3 : Hid (∀ b off, B = some ⟨b, off, none⟩ → w.heap.size ≤ b) := Lib.hid (fun b off e => Nat.le_trans HG2.out.size (HRM.out.2.2.2.2 b off e)))
    | (go_at_call 21; refine (Code.check_c m B n d _ 0 ⟨HRM.out.2.2.2.1, HTE3.out⟩ HRM.out.2.1 HFW3.out.lim (by rw [HS3.out]; exact HC.out) (by omega)).mono ?_; rintro e w4 ⟨rfl, b4⟩; have HB4 := Lib.hid b4; clear b4))
  go_ret
  have hin : Inner w4 ⟨B, n, d, m⟩ := ⟨⟨HRM.out.2.2.2.1.below HB4.out, HTE3.out.below HB4.out⟩, HRM.out.2.1, HRM.out.2.2.1⟩
  exact ⟨⟨B, n, d, m⟩, rfl, HS3.out, ⟨hin, hn, HFW3.out.lim, fun b off e _ => HB3.out b off e, HNW3.out⟩, HT3.out.below HB4.out, kept_below HG3.out HB4.out⟩
set_option maxRecDepth 100000 in
theorem code_bad1 (T n : Nat) (l q : List Int) (c : List Step) (w : World) (h : Tk w T ((n : Int) :: l)) (hn : n ≤ 255) (ho : manyT stepT n l = some (c, q)) (hc : checkS c ≠ 0) :
    Calls Try.prog 40 #[.pointer (some ⟨T, 0, none⟩)] w (Pan w T) := by
  have HT := Lib.hid h
  have HO := Lib.hid ho
  obtain ⟨ck, hck⟩ : ∃ x, checkS c = x := ⟨_, rfl⟩
  have HC := Lib.hid hck
  have hne : (ck != 0) = true := by rw [← hck]; simpa using hc
  have hmf : ∀ (fn : Fn) (first cap : Array Value) (w : World), (Instr.makeFunc fn first cap).run Try.prog w = .ok (.func fn first cap) w := fun _ _ _ _ => rfl
  clear h ho hc hck
  go_enter Try.func40, Try.ntmps40
  go_wp2_with (first
    | (go_at_call 38; refine (one_ok T (n : Int) _ _ HT.out).mono ?_; rintro e w2 ⟨rfl, ht2, hg2⟩; have HT2 := Lib.hid ht2; have HG2 := Lib.hid hg2; clear ht2 hg2)
    | (go_at_call 48; refine (sevstep_some T n l q c _ HT2.out hn HO.out).mono ?_; rintro e w3 ⟨B, d, m, rfl, hs3, ho3, hte3, hfw3, hnw3, ht3, hg3⟩; have HS3 := Lib.hid hs3; have HO3 := Lib.hid ho3; have HG3 := Lib.hid (kept_trans HG2.out hg3); have HTE3 := Lib.hid hte3; have HFW3 := Lib.hid hfw3; clear hs3 ho3 ht3 hg3 hte3 hfw3 hnw3; have HRM := Lib.hid (row_room HO3.out))
    | (go_at_call 21; refine (Code.check_c m B n d _ ck ⟨HRM.out.2.2.2.1, HTE3.out⟩ HRM.out.2.1 HFW3.out.lim (by rw [HS3.out]; exact HC.out) (by omega)).mono ?_; rintro e w4 ⟨rfl, b4⟩; have HB4 := Lib.hid b4; clear b4))
  exact ⟨rfl, rfl, kept_below HG3.out HB4.out⟩
set_option maxRecDepth 100000 in
theorem code_bad2 (T n : Nat) (l : List Int) (w : World) (h : Tk w T ((n : Int) :: l)) (hn : n ≤ 255) (ho : manyT stepT n l = none) :
    Calls Try.prog 40 #[.pointer (some ⟨T, 0, none⟩)] w (Pan w T) := by
  have HT := Lib.hid h
  have HO := Lib.hid ho
  have hmf : ∀ (fn : Fn) (first cap : Array Value) (w : World), (Instr.makeFunc fn first cap).run Try.prog w = .ok (.func fn first cap) w := fun _ _ _ _ => rfl
  clear h ho
  go_enter Try.func40, Try.ntmps40
  go_wp2_with (first
    | (go_at_call 38; refine (one_ok T (n : Int) _ _ HT.out).mono ?_; rintro e w2 ⟨rfl, ht2, hg2⟩; have HT2 := Lib.hid ht2; have HG2 := Lib.hid hg2; clear ht2 hg2)
    | (go_at_call 48; refine (sevstep_none T n l _ HT2.out hn HO.out).mono ?_; rintro e w3 ⟨rfl, hg3⟩; have HG3 := Lib.hid (kept_trans HG2.out hg3); clear hg3))
  exact ⟨rfl, rfl, HG3.out⟩
set_option maxRecDepth 100000 in
theorem code_bad0 (T : Nat) (w : World) (h : Tk w T []) :
    Calls Try.prog 40 #[.pointer (some ⟨T, 0, none⟩)] w (Pan w T) := by
  have HT := Lib.hid h
  have hmf : ∀ (fn : Fn) (first cap : Array Value) (w : World), (Instr.makeFunc fn first cap).run Try.prog w = .ok (.func fn first cap) w := fun _ _ _ _ => rfl
  clear h
  go_enter Try.func40, Try.ntmps40
  go_wp2_with (go_at_call 38; refine (one_bad T _ HT.out).mono ?_; rintro e w2 ⟨rfl, hg2⟩; have HG2 := Lib.hid hg2; clear hg2)
  exact ⟨rfl, rfl, HG2.out⟩
theorem code_some (T : Nat) (l q : List Int) (c : List Step) (w : World) (h : Tk w T l) (ho : codeT l = some (c, q)) :
    Calls Try.prog 40 #[.pointer (some ⟨T, 0, none⟩)] w fun e w' => ∃ x : RawC, e = .returned (.slice x.A x.n x.c) ∧ ss x.l = c ∧ Taken w w' x ∧ Tk w' T q ∧ w.grownBy w' (some T) := by
  match l, h, ho with
  | z :: r, h, ho =>
    have hz := h.bb.head
    replace ho : (manyT stepT z.toNat r).bind (fun r => if checkS r.1 = 0 then some r else none) = some (c, q) := ho
    cases e : manyT stepT z.toNat r with
    | none => rw [e] at ho; cases ho
    | some p =>
      rw [e] at ho
      replace ho : (if checkS p.1 = 0 then some p else none) = some (c, q) := ho
      split at ho
      · rename_i h0
        injection ho with ho
        subst ho
        have e3 : ((z.toNat : Nat) : Int) = z := by omega
        exact code_ok T z.toNat r q c w (by rw [e3]; exact h) (by omega) e h0
      · cases ho
theorem code_none (T : Nat) (l : List Int) (w : World) (h : Tk w T l) (ho : codeT l = none) :
    Calls Try.prog 40 #[.pointer (some ⟨T, 0, none⟩)] w (Pan w T) := by
  match l, h, ho with
  | [], h, _ => exact code_bad0 T w h
  | z :: r, h, ho =>
    have hz := h.bb.head
    have e3 : ((z.toNat : Nat) : Int) = z := by omega
    replace ho : (manyT stepT z.toNat r).bind (fun r => if checkS r.1 = 0 then some r else none) = none := ho
    cases e : manyT stepT z.toNat r with
    | none => exact code_bad2 T z.toNat r w (by rw [e3]; exact h) (by omega) e
    | some p =>
      rw [e] at ho
      replace ho : (if checkS p.1 = 0 then some p else none) = none := ho
      split at ho
      · cases ho
      · rename_i h0
        exact code_bad1 T z.toNat r p.2 p.1 w (by rw [e3]; exact h) (by omega) e h0
theorem tCodes : SliceT Try.prog 22 33 1 24 := SliceT.mk_ (z := .slice none 0 0) Try.underlying22 (by kernel_rfl) rfl (by decide)
/-- Codes that have all been laid since so many blocks. -/
def NewC (base : Nat) (M : List RawC) : Prop := ∀ x ∈ M, (∀ b off, x.A = some ⟨b, off, none⟩ → 0 < x.n → base ≤ b) ∧ Newer base x.l
theorem NewC.nil_ {base : Nat} : NewC base [] := by intro r hr; cases hr
theorem NewC.end_ {base b2 : Nat} {w : World} {M : List RawC} {x : RawC} (h : NewC base M) (k : New w x) (hb : b2 = w.heap.size) (hb2 : base ≤ b2) : NewC base (M ++ [x]) := by
  subst hb
  intro y hy
  rcases List.mem_append.1 hy with hy | hy
  · exact h y hy
  · rw [List.mem_singleton] at hy; subst hy
    exact ⟨fun b off e hn => Nat.le_trans hb2 (k.1 b off e hn), fun r hr b off e hn => Nat.le_trans hb2 (k.2 r hr b off e hn)⟩
theorem NewC.off {base : Nat} {M : List RawC} {v : Value} (h : NewC base M) (hv : ∀ g, v.ownBlock = some g → g < base) : OffL v M :=
  fun x hx => ⟨fun b off e hn e2 => by have := (h x hx).1 b off e hn; have := hv b e2; omega, (h x hx).2.off hv⟩
theorem Inners.kept {w w1 : World} {T base : Nat} {M : List RawC} (h : Inners w M) (hn : NewC base M) (hT : T < base) (hg : w.grownBy w1 (some T)) : Inners w1 M :=
  Inners.grown (v := pin T) h (hn.off (pin_lt hT)) hg
set_option maxRecDepth 100000 in
set_option maxHeartbeats 1000000 in
theorem sevcode_some (T n : Nat) (l q : List Int) (c : List (List Step)) (w : World) (h : Tk w T l) (hn : n ≤ 255) (ho : manyT codeT n l = some (c, q)) :
    Calls Try.prog 39 #[.int .i64 n, .func (.func 40) #[.pointer (some ⟨T, 0, none⟩)] #[]] w fun e w' => ∃ B d M, e = .returned (.slice B n d) ∧ cc M = c ∧ w'.ownsRow w.heap.size 33 1 (.slice B n d) n (hs M) ∧ Inners w' M ∧ LimC M ∧ NewC w.heap.size M ∧ Tk w' T q ∧ w.grownBy w' (some T) := by
  have HT := Lib.hid h
  have HR : Hid (some (c, q) = (manyT codeT n l).map fun p => (([] : List (List Step)) ++ p.1, p.2)) := Lib.hid (by rw [← many_begin, ho])
  have hTs := h.lt
  clear h ho
  go_enter Try.func39, Try.ntmps39
  go_wp2
  go_loopw [5, 7] (fun v i wr => ∃ (k j : Nat) (M : List RawC) (l1 : List Int), k + j = n ∧ i = .int .i64 k ∧ wr.ownsRow w.heap.size 33 1 v k (hs M) ∧ Hid (Inners wr M) ∧ Hid (OffL v M) ∧ Hid (LimC M) ∧ Hid (NewC w.heap.size M) ∧ Hid (Tk wr T l1) ∧ Hid (w.grownBy wr (some T)) ∧ Hid (some (c, q) = (manyT codeT j l1).map fun p => (cc M ++ p.1, p.2))) (fun _ i _ => n - (intOf i).toNat)
  case atStart => exact ⟨0, n, [], l, by omega, rfl, World.ownsRow_nil _ _ _ _, Lib.hid Inners.nil_, Lib.hid OffL.nil_, Lib.hid LimC.nil_, Lib.hid NewC.nil_, HT, Lib.hid (kept_refl _ _), HR⟩
  case round =>
    obtain ⟨k, j, M, l1, hkj, rfl, hown, HIN, HOF, HLM, HNW, HTK, HG, HM⟩ := hrel
    generalize wr = w1 at *
    have HOWN := Lib.hid hown
    clear hown
    cases j with
    | zero =>
      obtain rfl : k = n := by omega
      have hend := many_end HM.out
      injection hend with hend
      injection hend with h1 h2
      subst h1 h2
      obtain ⟨B, d, rfl, _⟩ := own_form HOWN.out
      go_wp2
      go_ret
      exact ⟨B, d, M, rfl, rfl, HOWN.out, HIN.out, HLM.out, HNW.out, HTK.out, HG.out⟩
    | succ j =>
      have hlt : k < n := by omega
      cases e : codeT l1 with
      | none => exact absurd (many_stop HM.out e) (by simp)
      | some r =>
        obtain ⟨s, l2⟩ := r
        have HN := Lib.hid (many_step HM.out e)
        have HE := Lib.hid e
        obtain ⟨B4, d4, rfl, _⟩ := own_form HOWN.out
        clear e
        go_wp2_with fail
        refine (code_some T l1 l2 _ _ HTK.out HE.out).mono ?_
        rintro e w2 ⟨⟨XA, xn, xc, xl⟩, rfl, hs, hnew, ht2, hg2⟩
        simp only at hs ⊢
        have HT2 := Lib.hid ht2
        have HG2 := Lib.hid (kept_trans HG.out hg2)
        have HO2 := Lib.hid (row_kept HOWN.out hTs hg2)
        have HIN2 : Hid (Inners w2 (M ++ [⟨XA, xn, xc, xl⟩])) := Lib.hid ((HIN.out.kept HNW.out hTs hg2).app (Inners.one hnew.1))
        have hv1 : ∀ g, (Value.slice B4 k d4).ownBlock = some g → g < w1.heap.size := fun g e => (HOWN.out.lt g e).2
        have HOF2 : Hid (OffL (.slice B4 k d4) (M ++ [⟨XA, xn, xc, xl⟩])) := Lib.hid (HOF.out.app (OffL.one (New.off hnew.2.2.2 hv1)))
        have HLM2 : Hid (LimC (M ++ [⟨XA, xn, xc, xl⟩])) := Lib.hid (HLM.out.app (by intro y hy; rw [List.mem_singleton] at hy; subst hy; exact ⟨by have := hnew.2.1; simp only at this ⊢; omega, hnew.2.2.1⟩))
        have HNW2 : Hid (NewC w.heap.size (M ++ [⟨XA, xn, xc, xl⟩])) := Lib.hid (HNW.out.end_ hnew.2.2.2 rfl HG.out.size)
        have HSS : Hid (cc (M ++ [⟨XA, xn, xc, xl⟩]) = cc M ++ [s]) := Lib.hid (by rw [cc_app, ← hs]; rfl)
        clear ht2 hg2 hnew hs hv1
        go_wp2_with (at_builtin; refine append_row rfl _ _ 22 rfl tCodes w.heap.size (.slice B4 k d4) k (hs M) rfl (row_below HO2.out (bl_alloc (Below.refl _ _) _)) (kept_alloc HG2.out _).size _ 1 1 [.slice XA xn xc] rfl (Rd.built _ 1 1 [.slice XA xn xc] _ rfl) (one_cons rfl one_nil) (by omega) (by omega) ?_; intro v3 w3 ho3 hg3 hat3; have HO3 := Lib.hid ho3; have HT3 := Lib.hid ((HT2.out.alloc _).grown hg3 (fun g e => by have := row_base HO2.out g e; omega)); have HG3 := Lib.hid (kept_row (kept_alloc HG2.out _) hg3 (fun g e => .inr (row_base HO2.out g e))); have HIN3 := Lib.hid (Inners.grown (HIN2.out.below (bl_alloc (Below.refl _ _) _)) HOF2.out hg3); have HOF3 := Lib.hid (OffL.grown (HIN2.out.below (bl_alloc (Below.refl _ _) _)) HOF2.out hat3); clear ho3 hg3 hat3)
        go_roundw
        case rel => exact ⟨k + 1, j, M ++ [⟨XA, xn, xc, xl⟩], l2, by omega, by go_num, by rw [hs_app]; exact HO3.out, HIN3, HOF3, HLM2, HNW2, HT3, HG3, by rw [HSS.out]; exact HN⟩
        case measure => simp [intOf]; omega
set_option maxRecDepth 100000 in
set_option maxHeartbeats 1000000 in
theorem sevcode_none (T n : Nat) (l : List Int) (w : World) (h : Tk w T l) (hn : n ≤ 255) (ho : manyT codeT n l = none) :
    Calls Try.prog 39 #[.int .i64 n, .func (.func 40) #[.pointer (some ⟨T, 0, none⟩)] #[]] w (Pan w T) := by
  have HT := Lib.hid h
  have HR : Hid (none = (manyT codeT n l).map fun p => (([] : List (List Step)) ++ p.1, p.2)) := Lib.hid (by rw [← many_begin, ho])
  have hTs := h.lt
  clear h ho
  go_enter Try.func39, Try.ntmps39
  go_wp2
  go_loopw [5, 7] (fun v i wr => ∃ (k j : Nat) (xs : List Value) (m : List (List Step)) (l1 : List Int), k + j = n ∧ i = .int .i64 k ∧ wr.ownsRow w.heap.size 33 1 v k xs ∧ Hid (Tk wr T l1) ∧ Hid (w.grownBy wr (some T)) ∧ Hid (none = (manyT codeT j l1).map fun p => (m ++ p.1, p.2))) (fun _ i _ => n - (intOf i).toNat)
  case atStart => exact ⟨0, n, [], [], l, by omega, rfl, World.ownsRow_nil _ _ _ _, HT, Lib.hid (kept_refl _ _), HR⟩
  case round =>
    obtain ⟨k, j, xs, m, l1, hkj, rfl, hown, HTK, HG, HM⟩ := hrel
    generalize wr = w1 at *
    have HOWN := Lib.hid hown
    clear hown
    cases j with
    | zero => exact absurd (many_end HM.out) (by simp)
    | succ j =>
      have hlt : k < n := by omega
      cases e : codeT l1 with
      | none =>
        have HE := Lib.hid e
        clear e
        go_wp2_with fail
        refine (code_none T l1 _ HTK.out HE.out).mono ?_
        rintro e w2 ⟨rfl, hg2⟩
        have HG2 := Lib.hid (kept_trans HG.out hg2)
        clear hg2
        go_wp2
        exact ⟨rfl, rfl, HG2.out⟩
      | some r =>
        obtain ⟨s, l2⟩ := r
        have HN := Lib.hid (many_step HM.out e)
        have HE := Lib.hid e
        obtain ⟨B4, d4, rfl, _⟩ := own_form HOWN.out
        clear e
        go_wp2_with fail
        refine (code_some T l1 l2 _ _ HTK.out HE.out).mono ?_
        rintro e w2 ⟨⟨XA, xn, xc, xl⟩, rfl, hs, hnew, ht2, hg2⟩
        simp only at hs ⊢
        have HT2 := Lib.hid ht2
        have HG2 := Lib.hid (kept_trans HG.out hg2)
        have HO2 := Lib.hid (row_kept HOWN.out hTs hg2)
        clear ht2 hg2 hnew hs
        go_wp2_with (at_builtin; refine append_row rfl _ _ 22 rfl tCodes w.heap.size (.slice B4 k d4) k xs rfl (row_below HO2.out (bl_alloc (Below.refl _ _) _)) (kept_alloc HG2.out _).size _ 1 1 [.slice XA xn xc] rfl (Rd.built _ 1 1 [.slice XA xn xc] _ rfl) (one_cons rfl one_nil) (by omega) (by omega) ?_; intro v3 w3 ho3 hg3 hat3; have HO3 := Lib.hid ho3; have HT3 := Lib.hid ((HT2.out.alloc _).grown hg3 (fun g e => by have := row_base HO2.out g e; omega)); have HG3 := Lib.hid (kept_row (kept_alloc HG2.out _) hg3 (fun g e => .inr (row_base HO2.out g e))); clear ho3 hg3 hat3)
        go_roundw
        case rel => exact ⟨k + 1, j, _, m ++ [s], l2, by omega, by go_num, HO3.out, HT3, HG3, HN⟩
        case measure => simp [intOf]; omega
end Go.Proofs.Ytilfkohckmknkaa.Shape
