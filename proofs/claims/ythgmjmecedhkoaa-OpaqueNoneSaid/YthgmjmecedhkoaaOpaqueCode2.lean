/-
  WHAT THE FUNCTIONS OF THE LAYER opaque RETURN, AS THEY ARE WRITTEN: Begin, clonePast, Next.
-/
import Derived.Test.YthgmjmecedhkoaaOpaqueCode
import Derived.OwnWalk
import Derived.Lib.SliceRun
import Derived.Test.YthgmjmecedhkoaaHeapPutO
namespace Go.Proofs.Ythgmjmecedhkoaa.Opaque
open Go.ChangeShapes Go.WideShapes Go.ChangeAt Go.RowKit Mem

theorem tState : SliceT Try.prog 22 39 2 32 := SliceT.mk_ (z := .agg #[.int .i64 0, .slice none 0 0]) Try.underlying22 (by kernel_rfl) rfl (by decide)
set_option maxRecDepth 100000 in
theorem clones_any (L : List RawS) (A : Option Addr) (n c : Nat) (w : World) (hr : Rd w 2 A n (ss L)) (hn : n ≤ 1000000) :
    Calls Try.prog 22 #[.slice A n c] w (RetO w 39 2 n (ss L)) := by
  have hnil := fun W => Lib.run_eql_slice_nil (P := Try.prog) W 22 39 A n c 0 0 Try.underlying22
  rcases A with _ | ad
  · obtain ⟨rfl, h0⟩ := rd_nil hr
    have HX := Lib.hid h0
    clear hr h0
    go_enter Try.func22, Try.ntmps22
    go_wp2
    go_ret
    exact ⟨_, rfl, by rw [HX.out]; exact Own.nil_ (Below.refl _ _)⟩
  · have HR := Lib.hid hr
    clear hr
    go_enter Try.func22, Try.ntmps22
    go_wp2_with (at_builtin; refine append_rd rfl _ _ 22 rfl tState w _ 0 [] rfl (Own.empty w _ _) _ n c (ss L) rfl (HR.out.alloc _) (ss_one L) (by omega) (by omega) ?_; intro v' w' hown' hg; have HO := Lib.hid hown'; clear hown' hg)
    go_ret
    exact ⟨v', rfl, by have := HO.out; simpa using this⟩

/-- What is returned: a past, and an error's number. -/
def RetP (w : World) (r : List St × Int) (e : Ending) (w' : World) : Prop :=
  ∃ B m d L, e = .returned (.tuple #[.slice B m d, .int .i64 r.2]) ∧ Past w' B m L ∧ cc L = r.1 ∧ Lim L ∧ Below w.heap.size w w'

theorem own_nil_of {w0 w : World} {e size : Nat} {v : Value} {xs : List Value} (h : Own w0 w e size v 0 xs) : xs = [] := by
  have := h.1.1; exact List.eq_nil_of_length_eq_zero (by simpa using this)
set_option maxRecDepth 100000 in
theorem begin_c (v : Int) (h : List Heap.Cell) (A : Option Addr) (n c : Nat) (w : World) (r : List St × Int) (hr : Rd w 2 A n (Heap.cs h)) (hn : n ≤ 1000000) (hb : beginS v h = r) :
    Calls Try.prog 12 #[.int .i64 v, .slice A n c] w (RetP w r) := by
  have HR := Lib.hid hr
  have HB := Lib.hid hb
  clear hr hb
  go_enter Try.func12, Try.ntmps12
  go_wp2_with fail
  refine (Heap.clone_any h _ _ _ _ HR.out hn).mono ?_
  rintro e w1 ⟨v1, rfl, ho⟩
  obtain ⟨B, d, rfl, hrd⟩ := ho.form
  have HB1 := Lib.hid ho.2
  have HP : Hid (Past (w1.alloc (.cells #[.int .i64 v, .slice B n d] 39)) (some ⟨w1.heap.size, 0, none⟩) 1 [⟨v, B, n, d, h⟩]) := Lib.hid
    ⟨Rd.built w1 2 1 (ss [⟨v, B, n, d, h⟩]) _ rfl, Inners.one (hrd.alloc _)⟩
  have HLim : Hid (Lim [⟨v, B, n, d, h⟩]) := Lib.hid (by intro x hx; rw [List.mem_singleton] at hx; subst hx; exact hn)
  have HI := Lib.hid (hrd.alloc (.cells #[.int .i64 v, .slice B n d] 39))
  clear ho hrd
  cases h1 : okB ⟨v, h⟩
  · have HF : Hid (r = ([], 1)) := Lib.hid (by rw [← HB.out]; unfold beginS; rw [h1]; rfl)
    have H1 : Hid (rightB (cc [⟨v, B, n, d, h⟩]) = false) := Lib.hid (right_bad _ 0 (Nat.zero_lt_one) (by rw [at_first _ _ rfl]; exact h1))
    clear h1
    go_wp2_with fail
    refine (right_c [⟨v, B, n, d, h⟩] _ _ _ _ false HP.out (by decide) HLim.out H1.out).mono ?_
    rintro e w2 ⟨rfl, b2⟩
    go_wp2
    go_ret2
    exact ⟨_, _, _, [], by rw [HF.out]; rfl, Past.none_, by rw [HF.out]; rfl, (by intro x hx; cases hx), bl_trans (bl_alloc HB1.out _) b2⟩
  · have HF : Hid (r = ([⟨v, h⟩], 0)) := Lib.hid (by rw [← HB.out]; unfold beginS; rw [if_pos h1])
    have H1 : Hid (rightB (cc [⟨v, B, n, d, h⟩]) = true) := Lib.hid (right_all _ (Nat.zero_lt_one) (by
      show uptoB _ (0 + 1) = true
      rw [upto_succ, at_first _ _ rfl]
      unfold st; rw [h1]; rfl))
    clear h1
    go_wp2_with fail
    refine (right_c [⟨v, B, n, d, h⟩] _ _ _ _ true HP.out (by decide) HLim.out H1.out).mono ?_
    rintro e w2 ⟨rfl, b2⟩
    go_wp2
    go_ret2
    exact ⟨_, _, _, [⟨v, B, n, d, h⟩], by rw [HF.out]; rfl, HP.out.below b2, by rw [HF.out]; rfl, HLim.out, bl_trans (bl_alloc HB1.out _) b2⟩

/-- The heaps lie in other blocks than a slice of the call's own. -/
def Off (v : Value) (L : List RawS) : Prop := ∀ x ∈ L, ∀ b off, x.A = some ⟨b, off, none⟩ → 0 < x.n → v.ownBlock ≠ some b
/-- What is returned: a past, as a slice of the call's own. -/
def RetOP (w : World) (n : Nat) (S : List St) (e : Ending) (w' : World) : Prop :=
  ∃ v L, e = .returned v ∧ Own w w' 39 2 v n (ss L) ∧ cc L = S ∧ Inners w' L ∧ Lim L ∧ Off v L
theorem off_old {w0 w : World} {e size n : Nat} {v : Value} {xs : List Value} {L : List RawS} (h : Own w0 w e size v n xs) (hi : Inners w0 L) : Off v L := by
  intro x hx b off hA hn e1
  have h1 := h.base b e1
  have h2 := rd_lt (hi x hx) (by decide) hn hA
  omega
theorem cc_set (L : List RawS) (k : Nat) (x y : RawS) (hx : L[k]? = some x) (hy : st y = st x) : cc (L.set k y) = cc L := by
  unfold cc
  rw [List.map_set, hy]
  apply List.ext_getElem?
  intro i
  by_cases hi : i = k
  · subst hi
    have hl := (List.getElem?_eq_some_iff.1 hx).1
    rw [List.getElem?_set_self (by simpa using hl), List.getElem?_map, hx]; rfl
  · rw [List.getElem?_set_ne (fun e => hi e.symm)]
theorem mem_set {L : List RawS} {k : Nat} {y z : RawS} (h : z ∈ L.set k y) : z ∈ L ∨ z = y := by
  rcases List.mem_or_eq_of_mem_set h with h | h
  · exact .inl h
  · exact .inr h
set_option maxRecDepth 100000 in
theorem clone_p (L : List RawS) (A : Option Addr) (n c : Nat) (w : World) (hr : Past w A n L) (hn : n ≤ 1000000) (hl : Lim L) :
    Calls Try.prog 14 #[.slice A n c] w (RetOP w n (cc L)) := by
  have HR := Lib.hid hr
  have HLim := Lib.hid hl
  have HLen := Lib.hid hr.len
  clear hr hl
  go_enter Try.func14, Try.ntmps14
  go_wp2_with fail
  refine (clones_any L _ _ _ _ HR.out.1 hn).mono ?_
  rintro e w1 ⟨v1, rfl, ho⟩
  rcases Nat.eq_zero_or_pos n with h0 | h0
  · subst h0
    obtain ⟨B, d, rfl, hrd⟩ := ho.form
    have HO := Lib.hid ho
    clear ho hrd
    go_wp2
    go_loopw [9] (fun i wr => i = .int .i64 0 ∧ wr = w1) (fun i _ => 0)
    case atStart => exact ⟨rfl, rfl⟩
    case round =>
      obtain ⟨rfl, rfl⟩ := hrel
      go_wp2
      go_ret
      exact ⟨_, L, rfl, HO.out, rfl, HR.out.2.below HO.out.2, HLim.out, off_old HO.out HR.out.2⟩
  · obtain ⟨g, cap, rfl⟩ := own_lay ho h0
    have HO := Lib.hid ho
    have HOF := Lib.hid (off_old ho HR.out.2)
    clear ho
    go_wp2
    go_loopw [9] (fun i wr => ∃ k : Nat, k ≤ n ∧ i = .int .i64 k ∧ Hid (∃ L' : List RawS, Own w wr 39 2 (.slice (some ⟨g, 0, none⟩) n cap) n (ss L') ∧ cc L' = cc L ∧ Inners wr L' ∧ Lim L' ∧ Off (.slice (some ⟨g, 0, none⟩) n cap) L')) (fun i _ => n - (intOf i).toNat)
    case atStart => exact ⟨0, Nat.zero_le _, rfl, Lib.hid ⟨L, HO.out, rfl, HR.out.2.below HO.out.2, HLim.out, HOF.out⟩⟩
    case round =>
      obtain ⟨k, hk, rfl, HI⟩ := hrel
      generalize wr = w2 at *
      by_cases hlt : k < n
      · obtain ⟨L', i1, i2, i3, i4, i5⟩ := HI.out
        have hlen : L'.length = n := by have := congrArg List.length i2; rw [cc_len, cc_len, HLen.out] at this; exact this
        obtain ⟨x, hx⟩ : ∃ x, L'[k]? = some x := ⟨_, List.getElem?_eq_getElem (by omega)⟩
        have hxin := i3 x (List.mem_of_getElem? hx)
        have hxn := i4 x (List.mem_of_getElem? hx)
        have hss := flat_at sc_len L' k x hx
        obtain ⟨xv, xA, xn, xc, xh⟩ := x
        have c1 : w2.cell? ⟨g, k * 2 + 1, none⟩ = some (.slice xA xn xc) := (i1.1.cellAt (k * 2 + 1) (by omega)).trans (hss 1 (by decide))
        have HOWN := Lib.hid i1
        have HCC := Lib.hid i2
        have HINN := Lib.hid i3
        have HLL := Lib.hid i4
        have HOFF := Lib.hid i5
        have HX := Lib.hid hx
        have HXIN := Lib.hid hxin
        clear i1 i2 i3 i4 i5 HI hss hx hxin hlen
        go_wp2_with fail
        refine (Heap.clone_any xh _ _ _ _ HXIN.out hxn).mono ?_
        rintro e w3 ⟨v3, rfl, ho3⟩
        obtain ⟨B, d, rfl, hrd⟩ := ho3.form
        have HO3 := Lib.hid ho3
        have HOW3 := Lib.hid (HOWN.out.below ho3.2)
        have HRD := Lib.hid hrd
        have c2 := (ho3.2.cell (cell_lt c1)).trans c1
        have f2 := HOW3.out.1.frozenAt (k * 2 + 1)
        have hgl : g < w2.heap.size := by have := cell_lt c1; simpa using this
        clear ho3 hrd c1
        go_wp2
        go_roundw
        case rel =>
          refine ⟨k + 1, by omega, by go_num, Lib.hid ⟨L'.set k ⟨xv, B, xn, d, xh⟩, ?_, ?_, ?_, ?_, ?_⟩⟩
          · have := own_set HOW3.out (k * 2 + 1) (.slice B xn d)
            have e := flat_set sc_len L' k 1 (by decide) _ ⟨xv, B, xn, d, xh⟩ (.slice B xn d) HX.out rfl
            unfold ss at this ⊢
            rw [e] at this
            exact this
          · rw [cc_set L' k _ (⟨xv, B, xn, d, xh⟩ : RawS) HX.out rfl]; exact HCC.out
          · have hB : ∀ b off, B = some ⟨b, off, none⟩ → 0 < xn → b ≠ g := fun b off e hn' => by
              have := HO3.out.base b (by rw [e]; rfl); omega
            intro z hz
            rcases mem_set hz with hz | rfl
            · rcases Nat.eq_zero_or_pos z.n with h1 | h1
              · exact ⟨((HINN.out z hz).below HO3.out.2).1, fun hn' => absurd hn' (by omega)⟩
              · exact Rd.set_other ((HINN.out z hz).below HO3.out.2) (fun b off e e2 => HOFF.out z hz b off e h1 (by rw [e2]; rfl)) _ _
            · rcases Nat.eq_zero_or_pos xn with h1 | h1
              · exact ⟨HRD.out.1, fun hn' => absurd hn' (by show ¬ 0 < xn; omega)⟩
              · exact Rd.set_other HRD.out (fun b off e => hB b off e h1) _ _
          · intro z hz
            rcases mem_set hz with hz | rfl
            · exact HLL.out z hz
            · exact hxn
          · intro z hz b off e hn' e2
            rcases mem_set hz with hz | rfl
            · exact HOFF.out z hz b off e hn' e2
            · have := HO3.out.base b (by rw [show B = some ⟨b, off, none⟩ from e]; rfl)
              have e3 : g = b := by simpa [Value.ownBlock] using e2
              omega
        case measure => simp [intOf]; omega
      · obtain rfl : k = n := by omega
        have HI2 := HI
        go_wp2
        go_ret
        obtain ⟨L', i1, i2, i3, i4, i5⟩ := HI2.out
        exact ⟨_, L', rfl, i1, i2, i3, i4, i5⟩

/-- Pasts beside a slice of the call's own that grows. -/
theorem Inners.grown {w w' : World} {L : List RawS} {v : Value} (h : Inners w L) (ho : Off v L) (hg : w.grownBy w' v.ownBlock) : Inners w' L := fun x hx => rd_grown (h x hx) hg (fun b off e hn => ho x hx b off e hn)
theorem lim_one {x : RawS} (h : x.n ≤ 1000000) : Lim [x] := by intro y hy; rw [List.mem_singleton] at hy; subst hy; exact h
theorem Lim.app {L M : List RawS} (h : Lim L) (k : Lim M) : Lim (L ++ M) := by
  intro x hx
  rcases List.mem_append.1 hx with hx | hx
  · exact h x hx
  · exact k x hx
set_option maxRecDepth 100000 in
theorem next_c (L : List RawS) (l : List Heap.Write) (A D : Option Addr) (n c m d : Nat) (v : Int) (w : World) (r : List St × Int) (hr : Past w A n L) (hn : n ≤ 1000000) (hl : Lim L) (hw : Rd w 2 D m (Heap.ws l)) (hm : m ≤ 1000000) (hx : nextS (cc L) v l = r) :
    Calls Try.prog 7 #[.slice A n c, .int .i64 v, .slice D m d] w (RetP w r) := by
  have HR := Lib.hid hr
  have HLim := Lib.hid hl
  have HLen := Lib.hid hr.len
  have HW := Lib.hid hw
  have HX := Lib.hid hx
  clear hr hl hw hx
  go_enter Try.func7, Try.ntmps7
  go_wp2_with fail
  refine (clone_p L _ _ _ _ HR.out hn HLim.out).mono ?_
  rintro e w1 ⟨v1, L1, rfl, o1, o2, o3, o4, o5⟩
  have HO := Lib.hid o1
  have HCC := Lib.hid o2
  have HI := Lib.hid o3
  have HLL := Lib.hid o4
  have HOFF := Lib.hid o5
  clear o1 o2 o3 o4 o5
  -- what comes back with an error
  have back : ∀ (w2 : World) (f : Int), Below w1.heap.size w1 w2 → r = (cc L, f) → RetP w r (.returned (.tuple #[v1, .int .i64 f])) w2 := by
    intro w2 f hb hf
    obtain ⟨B, q, hv, hrd⟩ := HO.out.form
    exact ⟨B, n, q, L1, by rw [hf, hv], ⟨hrd.below hb, HI.out.below hb⟩, by rw [hf]; exact HCC.out, HLL.out, bl_trans HO.out.2 hb⟩
  have HBK := Lib.hid back
  clear back
  cases h1 : rightB (cc L)
  · have H1 := Lib.hid h1
    have HF : Hid (r = (cc L, 1)) := Lib.hid (by rw [← HX.out]; unfold nextS; rw [h1]; rfl)
    clear h1
    go_wp2_with fail
    refine (right_c L _ _ _ _ false (HR.out.below HO.out.2) hn HLim.out H1.out).mono ?_
    rintro e w2 ⟨rfl, b2⟩
    go_wp2
    go_ret2
    exact HBK.out _ _ b2 HF.out
  · have H1 := Lib.hid h1
    clear h1
    go_wp2_with fail
    refine (right_c L _ _ _ _ true (HR.out.below HO.out.2) hn HLim.out H1.out).mono ?_
    rintro e w2 ⟨rfl, b2⟩
    have HB2 := Lib.hid b2
    clear b2
    have hpos : 0 < n := by have := right_pos _ H1.out; rw [cc_len, HLen.out] at this; exact this
    obtain ⟨j, hj⟩ : ∃ j, n = j + 1 := ⟨n - 1, by omega⟩
    obtain ⟨b3, off, ⟨xv, xA, xn, xc, xh⟩, rfl, hx, c0, c1, hin⟩ := (HR.out.below (bl_trans HO.out.2 HB2.out)).at_ j (by omega)
    have HLast : Hid ((cc L).getLast? = some ⟨xv, xh⟩) := Lib.hid (by
      rw [List.getLast?_eq_getElem?, cc_len, HLen.out, hj]; exact cc_at L j _ hx)
    have HIN := Lib.hid hin
    have hxn : xn ≤ 1000000 := HLim.out.at_ j _ hx
    have HJ := Lib.hid hj
    have g0 : (n : Int) - 1 = (j : Int) := by omega
    have g2 : (j : Int) < (n : Int) := by omega
    have g3 : IntKind.i64.wrap (j : Int) = (j : Int) := by rw [IntKind.wrap_i64]; omega
    have HBX := Lib.hid (Blk.new w2 39 #[.int .i64 xv, .slice xA xn xc])
    clear hx hin hj hpos
    cases h2 : Reads.timeB v
    · have HF : Hid (r = (cc L, 1)) := Lib.hid (by rw [← HX.out]; unfold nextS; rw [if_pos H1.out, HLast.out, h2]; rfl)
      go_wp2_with (go_at_call 15; refine (Reads.tick_any _ _).mono ?_; rintro e w' ⟨rfl, rfl⟩)
      go_ret2
      exact HBK.out _ _ HB2.out HF.out
    · have H2 := Lib.hid h2
      by_cases h3 : v ≤ xv
      · have HF : Hid (r = (cc L, 1)) := Lib.hid (by rw [← HX.out]; unfold nextS; rw [if_pos H1.out, HLast.out, h2]; simp only []; rw [decide_eq_false (by omega)]; rfl)
        go_wp2_with (go_at_call 15; refine (Reads.tick_any _ _).mono ?_; rintro e w' ⟨rfl, rfl⟩)
        go_ret2
        exact HBK.out _ _ (bl_alloc HB2.out _) HF.out
      · have HV : Hid (nextS (cc L) v l = if (Heap.putS xh l).2 = 0 then (cc L ++ [⟨v, (Heap.putS xh l).1⟩], 0) else (cc L, (Heap.putS xh l).2)) := Lib.hid (by
          unfold nextS; rw [if_pos H1.out, HLast.out, h2]; simp only []; rw [decide_eq_true (by omega)]; rfl)
        obtain ⟨⟨ph, pe⟩, hp⟩ : ∃ y, Heap.putS xh l = y := ⟨_, rfl⟩
        have HP := Lib.hid hp
        rw [hp] at HV
        clear hp
        go_wp2_with (go_at_call 15; refine (Reads.tick_any _ _).mono ?_; rintro e w' ⟨rfl, rfl⟩)
        refine (Heap.put_o xh l _ _ _ _ _ _ _ _ (HIN.out.alloc _) ((HW.out.below (bl_trans HO.out.2 HB2.out)).alloc _) hxn hm HP.out).mono ?_
        rintro e w3 ⟨v3, rfl, o3⟩
        have HO3 := Lib.hid o3
        obtain ⟨B, q, rfl, hrd⟩ := o3.form
        have HRD := Lib.hid hrd
        have HB3 := Lib.hid (bl_trans (bl_alloc HB2.out (.cells #[.int .i64 xv, .slice xA xn xc] 39)) o3.2)
        clear o3 hrd c0 c1
        by_cases h4 : pe = 0
        · have HF : Hid (r = (cc L ++ [⟨v, ph⟩], 0)) := Lib.hid (by rw [← HX.out, HV.out, if_pos h4])
          subst h4
          have HPR : Hid (Rd (w3.alloc (.cells #[.int .i64 v, .slice B xn q] 39)) 2 (some ⟨w3.heap.size, 0, none⟩) 1 (ss [⟨v, B, xn, q, ph⟩])) := Lib.hid (Rd.built w3 2 1 (ss [⟨v, B, xn, q, ph⟩]) _ rfl)
          have HOA := Lib.hid ((HO.out.below HB3.out).alloc (.cells #[.int .i64 v, .slice B xn q] 39))
          go_wp2_with (at_builtin; refine append_at rfl _ _ 22 rfl tState w _ n (ss L1) rfl HOA.out _ 1 1 (ss [⟨v, B, xn, q, ph⟩]) rfl HPR.out (ss_one _) (by omega) (by omega) ?_; intro v' w' hown' hg' hat'; have HOWN := Lib.hid hown'; have HG := Lib.hid hg'; clear hown' hg' hat')
          go_ret2
          obtain ⟨A', c', hv', hrd'⟩ := HOWN.out.form
          have hb' : Below w.heap.size w w' := HOWN.out.2
          refine ⟨A', n + 1, c', L1 ++ [⟨v, B, xn, q, ph⟩], by rw [HF.out, hv']; rfl, ⟨by rw [ss_app]; exact hrd', ?_⟩, by rw [cc_app, HCC.out, HF.out]; rfl, HLL.out.app (lim_one hxn), hb'⟩
          refine Inners.app (((HI.out.below HB3.out).below (bl_alloc (Below.refl _ _) _)).grown HOFF.out HG.out) (Inners.one ?_)
          refine rd_grown (Rd.alloc HRD.out _) HG.out (fun b off e hn' e2 => ?_)
          have k1 := HO3.out.base b (by rw [show B = some ⟨b, off, none⟩ from e]; rfl)
          have k2 := HO.out.lt b e2
          have k3 := HB2.out.size
          simp at k1
          omega
        · have HF : Hid (r = (cc L, pe)) := Lib.hid (by rw [← HX.out, HV.out, if_neg h4])
          have t1 : (pe != 0) = true := by simpa using h4
          clear h4
          go_wp2
          go_ret2
          exact HBK.out _ _ HB3.out HF.out
end Go.Proofs.Ythgmjmecedhkoaa.Opaque
